/-
  WHAT THE LAWS' WALKS TAKE OF chain's FUNCTIONS: a premise that each landed program's own walks must meet ('chnC').
-/
import Derived.WalkKit
import Derived.Test.YtemdcpajcaaphaaProg
import Derived.Test.YtemdcpajcaaphaaVer
import Derived.Test.YtemdcpajcaaphaaVerM
import Derived.Test.YtemdcpajcaaphaaVerD
import Derived.Test.YtemdcpajcaaphaaVerE
import Derived.Test.YtemdcpajcaaphaaVerN
namespace Go.Proofs.Ytemdcpajcaaphaa
open Go.RowKit
/-- Versions of which a call may be asked: few, and small. -/
def smallV (l : List Ver) : Prop := l.length ≤ 1000 ∧ ∀ x ∈ l, x.value.length ≤ 1000
/-- What a call that makes versions hands back: new memory, all of it. -/
def VersNew (w : World) (l : List Ver) (e : Ending) (w' : World) : Prop :=
  ∃ a c, e = .returned (.slice a l.length c) ∧ RdL Elt.ver (fun k => w.heap.size ≤ k ∧ k < w'.heap.size) w' (.slice a l.length c) l ∧ Below w.heap.size w w'
def InstNew (w : World) (l : List Ver) (x : Ver) (e : Ending) (w' : World) : Prop :=
  ∃ a c, e = .returned (.tuple #[.slice a (instV l x).1.length c, .int .i64 ((instV l x).2 : Nat)]) ∧ RdL Elt.ver (fun k => w.heap.size ≤ k ∧ k < w'.heap.size) w' (.slice a (instV l x).1.length c) (instV l x).1 ∧ Below w.heap.size w w'
/-- The contracts of chain's functions, without awake. -/
structure ChnC0 : Prop where
  check : ∀ (w : World) {S : Nat → Prop} {a : Option Addr} {n c : Nat} {l : List Ver}, RdL Elt.ver S w (.slice a n c) l →
    Calls Try.prog 19 #[.slice a n c] w fun e w' => e = .returned (.bool (decide (okV l))) ∧ Below w.heap.size w w'
  read : ∀ (w : World) {S : Nat → Prop} {a : Option Addr} {n c : Nat} {l : List Ver} {s : Int}, RdL Elt.ver S w (.slice a n c) l → smallV l → I64' s →
    Calls Try.prog 12 #[.slice a n c, .int .i64 s] w (ReadVEnd w l s)
  newer : ∀ (w : World) {S : Nat → Prop} {a : Option Addr} {n c : Nat} {l : List Ver} {s : Int}, RdL Elt.ver S w (.slice a n c) l → smallV l → I64' s →
    Calls Try.prog 21 #[.slice a n c, .int .i64 s] w fun e w' => e = .returned (.bool (newerV l s)) ∧ Below w.heap.size w w'
  install : ∀ (w : World) {S : Nat → Prop} {a : Option Addr} {n c : Nat} {l : List Ver} {x : Ver} {Ax : Option Addr} {nx Cx : Nat}, RdL Elt.ver S w (.slice a n c) l → smallV l → RdS S w (.slice Ax nx Cx) x.value → x.value.length ≤ 1000 → I64' x.stamp →
    Calls Try.prog 14 #[.slice a n c, .agg #[.int .i64 x.stamp, .bool x.gone, .slice Ax nx Cx]] w (InstNew w l x)
  vacuum : ∀ (w : World) {S : Nat → Prop} {a : Option Addr} {n c : Nat} {l : List Ver} {s : Int}, RdL Elt.ver S w (.slice a n c) l → smallV l → I64' s →
    Calls Try.prog 17 #[.slice a n c, .int .i64 s] w (VersNew w (vacV l s))
structure ChnC : Prop extends ChnC0 where
  awake : ∀ (w : World), Calls Try.prog 10 #[] w fun e w' => e = .returned (.bool true) ∧ Below w.heap.size w w'
theorem ReadVEnd.none {w w' : World} {l : List Ver} {s : Int} {e : Ending} (h : readV l s = none) (h2 : ReadVEnd w l s e w') : ∃ a c, e = .returned (.tuple #[.slice a 0 c, .bool false]) ∧ RdS (fun k => w.heap.size ≤ k ∧ k < w'.heap.size) w' (.slice a 0 c) [] ∧ Below w.heap.size w w' := by
  unfold ReadVEnd at h2; rw [h] at h2; exact h2
theorem ReadVEnd.some {w w' : World} {l : List Ver} {s : Int} {e : Ending} {xs : List UInt8} (h : readV l s = some xs) (h2 : ReadVEnd w l s e w') : ∃ a c, e = .returned (.tuple #[.slice a xs.length c, .bool true]) ∧ RdS (fun k => w.heap.size ≤ k ∧ k < w'.heap.size) w' (.slice a xs.length c) xs ∧ Below w.heap.size w w' := by
  unfold ReadVEnd at h2; rw [h] at h2; exact h2
theorem okV_small {l : List Ver} (hk : okV l) (hn : l.length ≤ 1000) : smallV l := ⟨hn, fun x hx => by
  obtain ⟨r, hr, rfl⟩ := List.mem_iff_getElem.1 hx
  have := (hk r hr).1.2.2.1
  omega⟩
theorem i64w {n : Int} (h : (Lit.int .i64 n).wf = true) : I64' n := by
  simp [Lit.wf, IntKind.min, IntKind.max, IntKind.signed, IntKind.bits] at h
  exact ⟨by omega, by omega⟩
theorem mayV_i64 {x : Ver} (h : mayV x) : I64' x.stamp := ⟨by have := h.1; omega, by have := h.2.1; omega⟩
end Go.Proofs.Ytemdcpajcaaphaa
