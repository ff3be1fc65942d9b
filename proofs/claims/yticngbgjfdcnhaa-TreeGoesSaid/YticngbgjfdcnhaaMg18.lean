/-
  TEXTS OF ONE PROOF, merged: TrbS.
-/
import Derived.Test.YticngbgjfdcnhaaMg13
namespace Go.Proofs.Yticngbgjfdcnhaa
open Go.ChangeShapes Go.WideShapes Go.ChangeAt Go.RowKit Go.Deep
structure Stp where
  key : Nat
  stamp : Nat
  gone : Bool
deriving DecidableEq
def Elt.stp : Elt Stp where
  size := 3
  pos := by omega
  R _ _ x vs := vs = [.int .u8 x.key, .int .u8 x.stamp, .bool x.gone] ∧ x.key < 256 ∧ x.stamp < 256
  len := by rintro _ _ _ _ ⟨rfl, _⟩; rfl
  keep := by rintro _ _ _ _ _ h _; exact h
  weak := by rintro _ _ _ _ _ h _; exact h
  fit := by rintro _ _ _ _ h; exact h
  one := by
    rintro _ _ _ _ ⟨rfl, _⟩ u hu
    simp only [List.mem_cons, List.not_mem_nil, or_false] at hu
    rcases hu with rfl | rfl | rfl <;> rfl
theorem RdL.stp {S : Nat → Prop} {w : World} {a : Option Addr} {n c : Nat} {l : List Stp} (h : RdL Elt.stp S w (.slice a n c) l) (r : Nat) (hr : r < l.length) :
    ∃ b off, a = some ⟨b, off, none⟩ ∧ S b ∧ w.cell? ⟨b, off + r * 3, none⟩ = some (.int .u8 l[r].key) ∧ w.cell? ⟨b, off + r * 3 + 1, none⟩ = some (.int .u8 l[r].stamp) ∧ w.cell? ⟨b, off + r * 3 + 2, none⟩ = some (.bool l[r].gone) ∧ l[r].key < 256 ∧ l[r].stamp < 256 := by
  obtain ⟨b, off, vs, rfl, hb, ⟨rfl, hk, hs⟩, hc⟩ := h.at r hr
  exact ⟨b, off, rfl, hb, hc 0 _ rfl, hc 1 _ rfl, hc 2 _ rfl, hk, hs⟩
set_option maxRecDepth 4000 in
theorem opens_stp : Opens Try.prog 31 Elt.stp := by
  intro H enc w base held fuel cs x h
  obtain ⟨y0, y1, y2, n, _, hl, h0, h1, h2⟩ := trod_struct3 Try.underlying31 h
  have hc : cs.length = 3 := hl.trans (by kernel_rfl)
  match cs, hc with
  | [u, v, r], _ =>
    obtain ⟨m, hm, _, hw⟩ := DataW.trod_int (by kernel_rfl : Try.prog.underlying 5 = some (.int .u8)) (h0 : DataW.trod enc Try.prog w base (fun _ => true) held n 5 [u] = some y0)
    obtain ⟨k, hk, _, hv⟩ := DataW.trod_int (by kernel_rfl : Try.prog.underlying 5 = some (.int .u8)) (h1 : DataW.trod enc Try.prog w base (fun _ => true) held n 5 [v] = some y1)
    obtain ⟨g, hg, _⟩ := DataW.trod_bool (by kernel_rfl : Try.prog.underlying 4 = some .bool) (h2 : DataW.trod enc Try.prog w base (fun _ => true) held n 4 [r] = some y2)
    cases hm; cases hk; cases hg
    have h3 := wf_u8 hw
    have h4 := wf_u8 hv
    refine ⟨⟨m.toNat, k.toNat, g⟩, ?_, by show m.toNat < 256; omega, by show k.toNat < 256; omega⟩
    show [Value.int .u8 m, Value.int .u8 k, Value.bool g] = [.int .u8 (m.toNat : Int), .int .u8 (k.toNat : Int), .bool g]
    rw [Int.toNat_of_nonneg h3.1, Int.toNat_of_nonneg h4.1]
theorem opens_stps : Opens Try.prog 22 (Elt.list Elt.stp) := Opens.list (by kernel_rfl) (by kernel_rfl) opens_stp
end Go.Proofs.Yticngbgjfdcnhaa
