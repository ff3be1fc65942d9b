/-
  THE WALK OF FrameSizes: whatever the text, the place and the byte: true, and nothing that lay has turned.
-/
import Derived.WalkKit
import Derived.WalkSpells
import Derived.WalkLawsBesides
import Derived.Lib.Hide
import Derived.Deep.Cut
import Derived.Test.YtppfedpocpadeaaProg
import Derived.Test.YtppfedpocpadeaaByte
import Derived.Test.YtppfedpocpadeaaMake
import Derived.Test.YtppfedpocpadeaaAux
import Derived.Test.YtppfedpocpadeaaOctA
import Derived.Test.YtppfedpocpadeaaFrmC
import Derived.Test.YtppfedpocpadeaaFrmH
import Derived.Test.YtppfedpocpadeaaFrameTellsW
namespace Go.Proofs.Ytppfedpocpadeaa
open Go.RowKit
theorem xor_u8 (x y : UInt8) : bits .xor .u8 (x.toNat : Int) (y.toNat : Int) = ((x ^^^ y).toNat : Int) := by
  have ha := x.toNat_lt
  have hb := y.toNat_lt
  have h1 : (BitVec.ofInt 8 (x.toNat : Int)).toNat = x.toNat := by
    rw [BitVec.ofInt_natCast, BitVec.toNat_ofNat]; exact Nat.mod_eq_of_lt (by omega)
  have h2 : (BitVec.ofInt 8 (y.toNat : Int)).toNat = y.toNat := by
    rw [BitVec.ofInt_natCast, BitVec.toNat_ofNat]; exact Nat.mod_eq_of_lt (by omega)
  have hx := (x ^^^ y).toNat_lt
  rw [UInt8.toNat_xor] at hx ⊢
  show IntKind.u8.wrap ((BitVec.ofInt 8 (x.toNat : Int) ^^^ BitVec.ofInt 8 (y.toNat : Int)).toNat : Int) = _
  rw [BitVec.toNat_xor, h1, h2]
  simp [IntKind.wrap, IntKind.signed, IntKind.bits]
  omega
theorem xor_ne {x y : UInt8} (h : y ≠ 0) : x ≠ x ^^^ y := by
  intro e
  apply h
  have : x ^^^ x = x ^^^ (x ^^^ y) := by rw [← e]
  rw [← UInt8.xor_assoc, UInt8.xor_self, UInt8.zero_xor] at this
  exact this.symm
theorem read_yes (w : World) {B : Nat} {ad : Option Addr} {n c : Nat} {xs ts : List UInt8} (hr : Rd B w (.slice ad n c) xs) (hB : B ≤ w.heap.size) (h : readF xs = some ts) :
    Calls Try.prog 11 #[.slice ad n c] w fun e w' => ∃ ad k c, e = .returned (.tuple #[.slice ad k c, .int .i64 ((frameB ts).length : Nat), .int .i64 0]) ∧ Rd w'.heap.size w' (.slice ad k c) ts ∧ Below w.heap.size w w' := by
  refine (read_any w hr hB).mono ?_
  rintro e w' ⟨ad', k', c', rfl, h2, h3⟩
  rw [(headF_some h).1] at h2
  rw [(headF_some h).2, errF_some h]
  exact ⟨_, _, _, rfl, h2, h3⟩
theorem read_no (w : World) {B : Nat} {ad : Option Addr} {n c : Nat} {xs : List UInt8} (hr : Rd B w (.slice ad n c) xs) (hB : B ≤ w.heap.size) (h : readF xs = none) :
    Calls Try.prog 11 #[.slice ad n c] w fun e w' => ∃ ad k c, e = .returned (.tuple #[.slice ad k c, .int .i64 0, .int .i64 30]) ∧ Below w.heap.size w w' := by
  refine (read_any w hr hB).mono ?_
  rintro e w' ⟨ad', k', c', rfl, _, h3⟩
  rw [(headF_none h).2, errF_none h]
  exact ⟨_, _, _, rfl, h3⟩

set_option maxRecDepth 100000 in
set_option maxHeartbeats 2000000 in
theorem FrameSizes_w (w : World) {a0 : Option Addr} {n0 c0 : Nat} {ts : List UInt8} (ht : Rd w.heap.size w (.slice a0 n0 c0) ts) {p : Int} (p0 : 0 ≤ p) (p1 : p < 65536) {y : Int} (y0 : 0 ≤ y) (y1 : y < 256) :
    Calls Try.prog 7 #[.slice a0 n0 c0, .int .u16 p, .int .u8 y] w fun e w' => e = .returned (.bool true) ∧ Below w.heap.size w w' := by
  obtain ⟨yb, rfl⟩ := u8_of y0 y1
  obtain rfl : n0 = ts.length := ht.len.1
  have htm : ts.length ≤ 9223372036854775807 := by have := ht.len.2; unfold maxLen at this; omega
  by_cases h : 2000 < ts.length
  · have d : decide ((2000 : Int) < ts.length) = true := by simp; omega
    go_enter Try.func7, Try.ntmps7
    go_wp2_with fail
    refine (awake3_any _).mono ?_
    rintro e w1 ⟨rfl, hb⟩
    go_wp2
    go_ret
    exact ⟨rfl, hb⟩
  have d : decide ((2000 : Int) < ts.length) = false := by simp; omega
  have h2 : ts.length ≤ 2000 := by omega
  clear h
  obtain ⟨hn, ehn⟩ : ∃ hn, hn = (numB ts.length).length := ⟨_, rfl⟩
  have hfl := frameB_len ts
  have hh5 := numB_len2 h2
  have hrd := readF_frame [] h2
  rw [List.append_nil] at hrd
  have hz := fun (w' : World) => size_yes ts.length w' (by omega) (by omega)
  rw [← ehn] at hfl hh5 hz
  have EH := Lib.hid ehn
  have HRD := Lib.hid hrd
  have HFL := Lib.hid hfl
  clear ehn hrd hfl
  go_enter Try.func7, Try.ntmps7
  go_wp2_with fail
  refine (awake3_any _).mono ?_
  rintro e w1 ⟨rfl, q⟩
  go_wp2_with fail
  refine (write_yes _ (ht.below q) q.size h2).mono ?_
  rintro e w2 ⟨ax, kx, cx, rfl, hF⟩
  obtain rfl := hF.len
  have rx := hF.rd
  replace q := q.trans (hF.1.mono q.size)
  clear hF
  go_wp2_with fail
  refine (hz _).mono ?_
  rintro e w3 ⟨rfl, hb⟩
  replace rx := rx.later hb
  replace q := q.trans (hb.mono q.size)
  clear hb hz
  have d3 : (((frameB ts).length : Int) == (hn : Int) + ts.length + 4) = true := by have := HFL.out; simp; omega
  go_wp2_with fail
  refine (read_yes _ rx (Nat.le_refl _) HRD.out).mono ?_
  rintro e w4 ⟨ap, kp, cp, rfl, rp, hb⟩
  replace rx := rx.later hb
  replace q := q.trans (hb.mono q.size)
  clear hb d3
  obtain ⟨m, hm⟩ : ∃ m : Nat, p % ((ts.length : Int) + 4) = (m : Int) := ⟨(p % ((ts.length : Int) + 4)).toNat, by
    have := Int.emod_nonneg p (show ((ts.length : Int) + 4) ≠ 0 by omega); omega⟩
  have hml : m < ts.length + 4 := by have := Int.emod_lt_of_pos p (show (0 : Int) < (ts.length : Int) + 4 by omega); omega
  have hl5 : (frameB ts).length ≤ 2010 := by have := HFL.out; omega
  have hkl : hn + m < (frameB ts).length := by have := HFL.out; omega
  go_upto_region 11 with (first
    | (refine wpList_lit byP rfl [] rfl rfl rfl ?_ (by simp); intro g5 k5 w5 hF5; have r5 := rx.below hF5.1)
    | (at_builtin; refine wpList_append byP rfl rfl rfl hF5.2 rfl r5 hF5.1.size ?_ ?hl; intro a6 k6 c6 w6 hO6 hg6 hb6))
  case hl => simp; omega
  rw [List.nil_append] at hO6
  have hb46 : Below w4.heap.size w4 w6 := hF5.1.trans hb6
  have q6 := q.trans (hb46.mono q.size)
  have rx6 := rx.below hb46
  have rp6 := rp.below hb46
  clear hF5 r5 hg6 hb6
  obtain ⟨g, cp6, hv, hg1, hg2, hg3, hg4, hfr, hce, hst⟩ := hO6.some (by omega)
  cases hv
  have hc := hce (hn + m) hkl
  have hf := hfr (hn + m)
  obtain ⟨x, hxe⟩ : ∃ x, x = (frameB ts)[hn + m] := ⟨_, rfl⟩
  rw [← hxe] at hc
  have hx8 := x.toNat_lt
  have HX := Lib.hid hxe
  clear hxe
  have hmi : (hn : Int) + m < (frameB ts).length := by omega
  clear hce hfr
  go_upto_region 12 with (fail)
  rw [xor_u8]
  have hO7 := hst (hn + m) (x ^^^ yb) hkl
  have q7 := q6.setCell (p := ⟨g, hn + m, none⟩) (Nat.le_trans q.size hg1) (.int .u8 ((x ^^^ yb).toNat : Int))
  have hb47 := hb46.setCell (p := ⟨g, hn + m, none⟩) hg1 (.int .u8 ((x ^^^ yb).toNat : Int))
  generalize w6.setCell ⟨g, hn + m, none⟩ (.int .u8 ((x ^^^ yb).toNat : Int)) = W at *
  have rp7 := rp.below hb47
  have rt7 := ht.below q7
  clear hst hc hf hO6 hb46 q6 rx6 rp6 rx rp hmi hm d ht
  by_cases hy : yb = 0
  · subst hy
    have hcs : (frameB ts).set (hn + m) (x ^^^ 0) = frameB ts := by
      rw [UInt8.xor_zero, HX.out]; simp
    rw [hcs] at hO7
    go_wp2_with fail
    refine (read_yes _ hO7.rd (Nat.le_refl _) HRD.out).mono ?_
    rintro e w8 ⟨a8, k8, c8, rfl, _, hb8⟩
    have rp8 := rp7.below (hb8.mono hb47.size)
    have rt8 := rt7.below (hb8.mono q7.size)
    have q8 := q7.trans (hb8.mono q7.size)
    clear hcs hO7 hb8 rp7 rt7
    go_wp2_with (first
      | (refine wpList_conv byP rfl rfl rfl rp8 ?_)
      | (refine wpList_conv byP rfl rfl rfl rt8 ?_))
    go_ret
    exact ⟨rfl, q8⟩
  · have hne : readF ((frameB ts).set (hn + m) (x ^^^ yb)) = none := by
      rw [EH.out]
      refine readF_changed h2 m hml _ ?_
      rw [← EH.out, List.getElem?_eq_getElem hkl, ← HX.out]
      intro e
      exact xor_ne hy (Option.some.inj e)
    have d4 : ((yb.toNat : Int) == 0) = false := by
      rw [beq_eq_false_iff_ne]
      intro e
      exact hy (UInt8.toNat_inj.1 (by simpa using e))
    have HN := Lib.hid hne
    clear hne hy
    go_wp2_with fail
    refine (read_no _ hO7.rd (Nat.le_refl _) HN.out).mono ?_
    rintro e w8 ⟨a8, k8, c8, rfl, hb8⟩
    have rp8 := rp7.below (hb8.mono hb47.size)
    have rt8 := rt7.below (hb8.mono q7.size)
    have q8 := q7.trans (hb8.mono q7.size)
    clear hO7 hb8 rp7 rt7
    go_wp2_with (first
      | (refine wpList_conv byP rfl rfl rfl rp8 ?_)
      | (refine wpList_conv byP rfl rfl rfl rt8 ?_))
    go_ret
    exact ⟨by show Ending.returned (.bool ((yb.toNat : Int) != 0)) = _; rw [bne, d4]; rfl, q8⟩
end Go.Proofs.Ytppfedpocpadeaa
