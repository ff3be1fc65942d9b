/-
  THE WALK OF octet's first: a loop by a goto. Any bytes.
-/
import Derived.WalkKit
import Derived.WalkSpells
import Derived.WalkLawsBesides
import Derived.Lib.Hide
import Derived.WalkMore
import Derived.ScopeJumps
import Derived.Test.YtebilecgmblmfaaProg
import Derived.Test.YtebilecgmblmfaaNum
import Derived.Test.YtebilecgmblmfaaByte
import Derived.Test.YtebilecgmblmfaaOctB
namespace Go.Proofs.Ytebilecgmblmfaa
open Go.RowKit


/-- A scope whose one label is fallen into, and jumped back to: what holds there at every time, and a measure. -/
theorem wp_scope_label {P : Program} {a : Act} {w : World} {Q : Exit → Act → World → Prop} {c X : Code} (l : Nat) (J : Act → World → Prop) (μ : Act → World → Nat) (hf : findLabel c l = some (.seq .skip X))
    (first : (∀ a w, J a w → X.wp P (Exit.jump l J Q) a w) → c.wp P (Exit.jump l J Q) a w)
    (pass : ∀ a w, J a w → X.wp P (Exit.jump l (fun a' w' => J a' w' ∧ μ a' w' < μ a w) Q) a w) : (Code.scope c).wp P Q a w :=
  wp_scope_jumps l J μ hf (first fun a w hJ => wp_mono (pass a w hJ) fun e a w h => by cases e <;> first | exact ⟨h.1, h.2.1⟩ | exact h) (fun a w hJ => wp_seq (wp_skip (pass a w hJ)))

set_option maxRecDepth 100000 in
set_option maxHeartbeats 1000000 in
theorem first_any (w : World) {B : Nat} {ad : Option Addr} {n c : Nat} {xs : List UInt8} (hr : Rd B w (.slice ad n c) xs) :
    Calls Try.prog 58 #[.slice ad n c] w fun e w' => e = .returned (.tuple #[.int .i64 (firstS xs).1, .int .i64 (firstS xs).2]) ∧ w = w' := by
  have hn := hr.len.1
  obtain rfl : n = xs.length := hn
  go_enter Try.func58, Try.ntmps58
  go_wp2
  refine wp_scope_label 0 (fun a' w' => w' = w ∧ ∃ (s acc : Nat) (u6 u7 u8 u9 u10 u11 u12 u13 u14 u15 u16 u17 u18 u19 u20 u21 u22 u23 u24 u25 u26 u27 u28 u29 u30 : Value), a' = { tmps := #[.slice ad xs.length c, undef, .int .i64 0, .int .i64 0, .int .u64 (acc : Nat), .int .i64 (s : Nat), u6, u7, u8, u9, u10, u11, u12, u13, u14, u15, u16, u17, u18, u19, u20, u21, u22, u23, u24, u25, u26, u27, u28, u29, u30, undef, undef, undef, undef, undef, undef, undef, undef, undef, undef, undef, undef, undef], defers := [] } ∧ FirstAt xs s acc) (fun a' _ => 5 - (intOf (a'.tmps.getD 5 undef)).toNat) rfl ?_ ?_
  · intro hlab
    go_wp2
    go_step3
    rename_i hk
    refine hk _ _ (hlab _ _ ⟨rfl, 0, 0, _, _, _, _, _, _, _, _, _, _, _, _, _, _, _, _, _, _, _, _, _, _, _, _, _, rfl, FirstAt.start xs⟩)
  · rintro a' w' ⟨rfl, s, acc, u6, u7, u8, u9, u10, u11, u12, u13, u14, u15, u16, u17, u18, u19, u20, u21, u22, u23, u24, u25, u26, u27, u28, u29, u30, rfl, hat⟩
    have h5 := hat.1
    by_cases hs : s = xs.length ∨ s = 5
    · have ho := hat.out hs
      rcases hs with hs | hs
      · subst hs
        clear hat
        go_wp2
        simp only [Exit.jump]
        go_ret2
        exact ⟨by rw [ho]; rfl, rfl⟩
      · subst hs
        go_wp2
        all_goals
          simp only [Exit.jump]
          go_ret2
          exact ⟨by rw [ho]; rfl, rfl⟩
    · have h6 : s < 5 := by omega
      have h7 : s < xs.length := by have := hat.2.1; omega
      rcases hr with ⟨_, _, hv, _⟩ | ⟨b, off, cap, hv, _, _, _, hcell⟩
      · exfalso; injection hv with _ h; omega
      · cases hv
        have hc := hcell s (.int .u8 (xs[s].toNat : Int)) (by simp [bv, h7])
        have h256 := xs[s].toNat_lt
        have hacc := hat.2.2.1
        obtain ⟨x, hxe⟩ : ∃ x, x = xs[s].toNat := ⟨_, rfl⟩
        have hp : (128 ^ s : Nat) ≤ 128 ^ 4 := Nat.pow_le_pow_right (by omega) (by omega)
        obtain ⟨k, hk⟩ : ∃ k, k = x % 128 * 128 ^ s := ⟨_, rfl⟩
        have hp2 : k ≤ 127 * 128 ^ 4 := by rw [hk]; exact Nat.mul_le_mul (by omega) hp
        obtain ⟨acc2, hacc2⟩ : ∃ a2, a2 = acc + k := ⟨_, rfl⟩
        have hsh : (((x : Int) % 128 * 2 ^ (7 * s) : Int)) = (k : Int) := by
          rw [hk, Int.pow_mul]; simp
        have hw : IntKind.u64.wrap ((acc : Int) + IntKind.u64.wrap ((x : Int) % 128 * 2 ^ (7 * s))) = (acc2 : Int) := by
          have ha : acc < 128 ^ 4 := Nat.lt_of_lt_of_le hacc hp
          rw [hsh, hacc2]
          simp [IntKind.wrap, IntKind.signed, IntKind.bits]
          omega
        have hcap : acc2 ≤ 128 ^ 5 := by have ha : acc < 128 ^ 4 := Nat.lt_of_lt_of_le hacc hp; omega
        rw [hk] at hacc2
        rw [← hxe] at hc h256
        have hne : ((s : Int) == (xs.length : Int)) = false := by simp; omega
        have hne5 : ((s : Int) == 5) = false := by simp; omega
        have H := Lib.hid hat
        have HA := Lib.hid hacc2
        have HX := Lib.hid hxe
        clear hat hs hcell hacc2 hxe hsh hp hp2 hacc hk
        by_cases hge : 128 ≤ x
        · go_wp2
          go_step3
          rw [show ((s : Int) + 1) = ((s + 1 : Nat) : Int) by omega]
          refine ⟨rfl, ⟨rfl, s + 1, acc2, _, _, _, _, _, _, _, _, _, _, _, _, _, _, _, _, _, _, _, _, _, _, _, _, _, rfl, ?_⟩, ?_⟩
          · rw [HA.out, HX.out]; exact H.out.next h7 h6 (by rw [← HX.out]; exact hge)
          · simp [intOf]; omega
        · have hlt : x < 128 := by omega
          clear hge
          by_cases hbig : 2147483647 < acc2
          · go_wp2
            simp only [Exit.jump]
            go_ret2
            have hd := H.out.last h7 h6 (by rw [← HX.out]; exact hlt)
            exact ⟨by rw [firstS_no hd h7 (.inl (by rw [← HX.out, ← HA.out]; exact hbig))]; rfl, rfl⟩
          · by_cases hz : x = 0 ∧ 1 ≤ s
            · obtain ⟨hz0, hz1⟩ := hz
              have hx0 : ((x : Int) == 0) = true := by simp [hz0]
              have HZ := Lib.hid hz0
              clear hz0
              go_wp2
              simp only [Exit.jump]
              go_ret2
              have hd := H.out.last h7 h6 (by rw [← HX.out]; exact hlt)
              exact ⟨by rw [firstS_no hd h7 (.inr ⟨by omega, by rw [← HX.out]; exact HZ.out⟩)]; rfl, rfl⟩
            · have hfin : (∃ q : Nat × Nat, q = (acc2, s + 1)) ∧ firstS xs = (acc2, s + 1) := by
                have hd := H.out.last h7 h6 (by rw [← HX.out]; exact hlt)
                rw [← HX.out, ← HA.out] at hd
                exact ⟨⟨_, rfl⟩, firstS_yes hd h7 (by omega) (by rw [← HX.out]; omega)⟩
              have HF := Lib.hid hfin.2
              clear hfin
              by_cases hz0 : x = 0
              · have hs0 : s = 0 := by omega
                have hx0 : ((x : Int) == 0) = true := by simp [hz0]
                have hs1 : ¬ (1 : Int) < (s : Int) + 1 := by omega
                clear hz hz0 hs0
                go_wp2
                simp only [Exit.jump]
                go_ret2
                exact ⟨by rw [HF.out]; rfl, rfl⟩
              · have hx0 : ((x : Int) == 0) = false := by simp; omega
                clear hz hz0
                go_wp2
                simp only [Exit.jump]
                go_ret2
                exact ⟨by rw [HF.out]; rfl, rfl⟩
end Go.Proofs.Ytebilecgmblmfaa
