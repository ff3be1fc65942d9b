/-
  law09: awake, and the four laws' walks: over the table's cells.
-/
import Derived.WalkKit
import Derived.WalkSpells
import Derived.WalkLawsBesides
import Derived.Deep.Cut
import Derived.Shelf.Abstract
import Derived.Lib.Hide
import Derived.Test.YtdjnpnbobedgoaaDoorProg
import Derived.Test.YtdjnpnbobedgoaaDoorModC
namespace Go.Proofs.YtdjnpnbobedgoaaDoor
open Go.RowKit
set_option maxRecDepth 100000 in
set_option maxHeartbeats 4000000 in
theorem awake9_any (w : World) (hT : TabAt w) : Calls Tryd.prog 7 #[] w fun e w' => e = .returned (.bool true) ∧ w' = w := by
  go_enter Tryd.func7, Tryd.ntmps7
  go_wp2_with fail
  refine (fits_any _ hT _ _).mono ?_
  rintro e w1 ⟨rfl, rfl⟩
  rw [show fitM 1 4 = true from by decide]
  go_wp2_with fail
  refine (fits_any _ hT _ _).mono ?_
  rintro e w2 ⟨rfl, rfl⟩
  rw [show fitM 2 3 = false from by decide]
  go_wp2_with fail
  refine (join_any _ _ _).mono ?_
  rintro e w3 ⟨rfl, rfl⟩
  rw [show joinM 2 3 = 4 from by decide]
  go_wp2_with fail
  refine (join_any _ _ _).mono ?_
  rintro e w4 ⟨rfl, rfl⟩
  rw [show joinM 1 5 = 5 from by decide]
  go_wp2_with fail
  refine (covers_any _ _ _).mono ?_
  rintro e w5 ⟨rfl, rfl⟩
  rw [show covM 4 2 = true from by decide]
  go_wp2_with fail
  refine (covers_any _ _ _).mono ?_
  rintro e w6 ⟨rfl, rfl⟩
  rw [show covM 3 2 = false from by decide]
  go_wp2_with fail
  refine (above_any _ _).mono ?_
  rintro e w7 ⟨rfl, rfl⟩
  rw [show aboM 5 = 2 from by decide]
  go_wp2_with fail
  refine (above_any _ _).mono ?_
  rintro e w8 ⟨rfl, rfl⟩
  rw [show aboM 3 = 1 from by decide]
  go_wp2_with fail
  refine (above_any _ _).mono ?_
  rintro e w9 ⟨rfl, rfl⟩
  rw [show aboM 0 = 0 from by decide]
  go_wp2_with fail
  refine (join_any _ _ _).mono ?_
  rintro e w10 ⟨rfl, rfl⟩
  rw [show joinM 0 1 = 0 from by decide]
  go_wp2_with fail
  refine (fits_any _ hT _ _).mono ?_
  rintro e w11 ⟨rfl, rfl⟩
  rw [show fitM 6 1 = false from by decide]
  go_wp2_with fail
  go_ret
  exact ⟨rfl, rfl⟩
set_option maxRecDepth 100000 in
set_option maxHeartbeats 4000000 in
theorem ModeTells_w (w : World) (hT : TabAt w) (a b : Int) : Calls Tryd.prog 3 #[.int .i64 a, .int .i64 b] w fun e w' => e = .returned (.bool true) ∧ w' = w := by
  have e1 : (fitM a b == fitM a b) = true := beq_self_eq_true _
  have e2 : (covM a b == covM a b) = true := beq_self_eq_true _
  have e3 : (joinM a b == joinM a b) = true := beq_self_eq_true _
  have e4 : (aboM a == aboM a) = true := beq_self_eq_true _
  go_enter Tryd.func3, Tryd.ntmps3
  go_wp2_with fail
  refine (awake9_any _ hT ).mono ?_
  rintro e w12 ⟨rfl, rfl⟩
  go_wp2_with fail
  refine (fits_any _ hT _ _).mono ?_
  rintro e w13 ⟨rfl, rfl⟩
  go_wp2_with fail
  refine (refFits_any _ _ _).mono ?_
  rintro e w14 ⟨rfl, rfl⟩
  go_wp2_with fail
  refine (covers_any _ _ _).mono ?_
  rintro e w15 ⟨rfl, rfl⟩
  go_wp2_with fail
  refine (refCovers_any _ _ _).mono ?_
  rintro e w16 ⟨rfl, rfl⟩
  go_wp2_with fail
  refine (join_any _ _ _).mono ?_
  rintro e w17 ⟨rfl, rfl⟩
  go_wp2_with fail
  refine (refJoin_any _ _ _).mono ?_
  rintro e w18 ⟨rfl, rfl⟩
  go_wp2_with fail
  refine (above_any _ _).mono ?_
  rintro e w19 ⟨rfl, rfl⟩
  go_wp2_with fail
  refine (refAbove_any _ _).mono ?_
  rintro e w20 ⟨rfl, rfl⟩
  go_wp2_with fail
  go_ret
  exact ⟨by first | rfl | simp, rfl⟩
set_option maxRecDepth 100000 in
set_option maxHeartbeats 4000000 in
theorem ModeJoins_w (w : World) (hT : TabAt w) (a b c : Int) : Calls Tryd.prog 4 #[.int .i64 a, .int .i64 b, .int .i64 c] w fun e w' => e = .returned (.bool true) ∧ w' = w := by
  go_enter Tryd.func4, Tryd.ntmps4
  go_wp2_with fail
  refine (awake9_any _ hT ).mono ?_
  rintro e w44 ⟨rfl, rfl⟩
  go_wp2_with fail
  have hcm := Lib.hid (join_comm a b)
  refine (join_any _ _ _).mono ?_
  rintro e w35 ⟨rfl, rfl⟩
  by_cases h0 : joinM a b = 0
  · have hz := join_zero a b h0
    rw [h0]
    clear h0
    go_wp2_with fail
    by_cases ha : aboM a = 0
    · refine (above_any _ _).mono ?_
      rintro e w36 ⟨rfl, rfl⟩
      rw [ha]
      go_wp2_with fail
      go_ret
      exact ⟨rfl, rfl⟩
    · have hb : aboM b = 0 := hz.resolve_left ha
      have ha2 : (aboM a == 0) = false := beq_eq_false_iff_ne.2 ha
      clear ha hz
      refine (above_any _ _).mono ?_
      rintro e w37 ⟨rfl, rfl⟩
      go_wp2_with fail
      refine (above_any _ _).mono ?_
      rintro e w38 ⟨rfl, rfl⟩
      rw [hb]
      go_wp2_with fail
      go_ret
      exact ⟨rfl, rfl⟩
  · have hj := Lib.hid (join_cov a b h0)
    have has := Lib.hid (join_assoc a b c h0)
    have hle := Lib.hid (join_least a b c h0)
    have h02 : (joinM a b == 0) = false := beq_eq_false_iff_ne.2 h0
    have e1 : (joinM a b == joinM a b) = true := beq_self_eq_true _
    have e2 : (joinM (joinM a b) c == joinM (joinM a b) c) = true := beq_self_eq_true _
    have e3 : (a == a) = true := beq_self_eq_true _
    clear h0
    go_wp2_with fail
    cases h1 : covM c a
    · refine (covers_any _ _ _).mono ?_
      rintro e w39 ⟨rfl, rfl⟩
      rw [h1]
      go_wp2_with fail
      refine (join_any _ _ _).mono ?_
      rintro e w28 ⟨rfl, rfl⟩
      rw [hcm.out]
      go_wp2_with fail
      refine (covers_any _ _ _).mono ?_
      rintro e w29 ⟨rfl, rfl⟩
      rw [hj.out.1]
      go_wp2_with fail
      refine (covers_any _ _ _).mono ?_
      rintro e w30 ⟨rfl, rfl⟩
      rw [hj.out.2.1]
      go_wp2_with fail
      refine (join_any _ _ _).mono ?_
      rintro e w31 ⟨rfl, rfl⟩
      rw [hj.out.2.2]
      go_wp2_with fail
      refine (join_any _ _ _).mono ?_
      rintro e w32 ⟨rfl, rfl⟩
      go_wp2_with fail
      refine (join_any _ _ _).mono ?_
      rintro e w33 ⟨rfl, rfl⟩
      go_wp2_with fail
      refine (join_any _ _ _).mono ?_
      rintro e w34 ⟨rfl, rfl⟩
      rw [← has.out]
      go_wp2_with fail
      go_ret
      exact ⟨rfl, rfl⟩
    · refine (covers_any _ _ _).mono ?_
      rintro e w40 ⟨rfl, rfl⟩
      rw [h1]
      go_wp2_with fail
      cases h2 : covM c b
      · refine (covers_any _ _ _).mono ?_
        rintro e w41 ⟨rfl, rfl⟩
        rw [h2]
        go_wp2_with fail
        refine (join_any _ _ _).mono ?_
        rintro e w28 ⟨rfl, rfl⟩
        rw [hcm.out]
        go_wp2_with fail
        refine (covers_any _ _ _).mono ?_
        rintro e w29 ⟨rfl, rfl⟩
        rw [hj.out.1]
        go_wp2_with fail
        refine (covers_any _ _ _).mono ?_
        rintro e w30 ⟨rfl, rfl⟩
        rw [hj.out.2.1]
        go_wp2_with fail
        refine (join_any _ _ _).mono ?_
        rintro e w31 ⟨rfl, rfl⟩
        rw [hj.out.2.2]
        go_wp2_with fail
        refine (join_any _ _ _).mono ?_
        rintro e w32 ⟨rfl, rfl⟩
        go_wp2_with fail
        refine (join_any _ _ _).mono ?_
        rintro e w33 ⟨rfl, rfl⟩
        go_wp2_with fail
        refine (join_any _ _ _).mono ?_
        rintro e w34 ⟨rfl, rfl⟩
        rw [← has.out]
        go_wp2_with fail
        go_ret
        exact ⟨rfl, rfl⟩
      · refine (covers_any _ _ _).mono ?_
        rintro e w42 ⟨rfl, rfl⟩
        rw [h2]
        go_wp2_with fail
        refine (covers_any _ _ _).mono ?_
        rintro e w43 ⟨rfl, rfl⟩
        rw [hle.out h1 h2]
        go_wp2_with fail
        refine (join_any _ _ _).mono ?_
        rintro e w28 ⟨rfl, rfl⟩
        rw [hcm.out]
        go_wp2_with fail
        refine (covers_any _ _ _).mono ?_
        rintro e w29 ⟨rfl, rfl⟩
        rw [hj.out.1]
        go_wp2_with fail
        refine (covers_any _ _ _).mono ?_
        rintro e w30 ⟨rfl, rfl⟩
        rw [hj.out.2.1]
        go_wp2_with fail
        refine (join_any _ _ _).mono ?_
        rintro e w31 ⟨rfl, rfl⟩
        rw [hj.out.2.2]
        go_wp2_with fail
        refine (join_any _ _ _).mono ?_
        rintro e w32 ⟨rfl, rfl⟩
        go_wp2_with fail
        refine (join_any _ _ _).mono ?_
        rintro e w33 ⟨rfl, rfl⟩
        go_wp2_with fail
        refine (join_any _ _ _).mono ?_
        rintro e w34 ⟨rfl, rfl⟩
        rw [← has.out]
        go_wp2_with fail
        go_ret
        exact ⟨rfl, rfl⟩
set_option maxRecDepth 100000 in
set_option maxHeartbeats 4000000 in
theorem ModeFits_w (w : World) (hT : TabAt w) (a b c : Int) : Calls Tryd.prog 5 #[.int .i64 a, .int .i64 b, .int .i64 c] w fun e w' => e = .returned (.bool true) ∧ w' = w := by
  go_enter Tryd.func5, Tryd.ntmps5
  go_wp2_with fail
  refine (awake9_any _ hT ).mono ?_
  rintro e w60 ⟨rfl, rfl⟩
  go_wp2_with fail
  have hcm := Lib.hid (fit_comm a b)
  have hab := Lib.hid (abo_iff a)
  have e1 : (fitM a b == fitM a b) = true := beq_self_eq_true _
  have e2 : (decide (0 < aboM a) == decide (0 < aboM a)) = true := beq_self_eq_true _
  cases h1 : covM c a
  · refine (covers_any _ _ _).mono ?_
    rintro e w55 ⟨rfl, rfl⟩
    rw [h1]
    go_wp2_with fail
    cases h3 : fitM a c
    · refine (fits_any _ hT _ _).mono ?_
      rintro e w49 ⟨rfl, rfl⟩
      rw [h3]
      go_wp2_with fail
      refine (fits_any _ hT _ _).mono ?_
      rintro e w45 ⟨rfl, rfl⟩
      go_wp2_with fail
      refine (fits_any _ hT _ _).mono ?_
      rintro e w46 ⟨rfl, rfl⟩
      rw [hcm.out]
      go_wp2_with fail
      refine (covers_any _ _ _).mono ?_
      rintro e w47 ⟨rfl, rfl⟩
      rw [hab.out]
      go_wp2_with fail
      refine (above_any _ _).mono ?_
      rintro e w48 ⟨rfl, rfl⟩
      go_wp2_with fail
      go_ret
      exact ⟨rfl, rfl⟩
    · refine (fits_any _ hT _ _).mono ?_
      rintro e w50 ⟨rfl, rfl⟩
      rw [h3]
      go_wp2_with fail
      cases h4 : fitM b c
      · refine (fits_any _ hT _ _).mono ?_
        rintro e w51 ⟨rfl, rfl⟩
        rw [h4]
        go_wp2_with fail
        refine (fits_any _ hT _ _).mono ?_
        rintro e w45 ⟨rfl, rfl⟩
        go_wp2_with fail
        refine (fits_any _ hT _ _).mono ?_
        rintro e w46 ⟨rfl, rfl⟩
        rw [hcm.out]
        go_wp2_with fail
        refine (covers_any _ _ _).mono ?_
        rintro e w47 ⟨rfl, rfl⟩
        rw [hab.out]
        go_wp2_with fail
        refine (above_any _ _).mono ?_
        rintro e w48 ⟨rfl, rfl⟩
        go_wp2_with fail
        go_ret
        exact ⟨rfl, rfl⟩
      · refine (fits_any _ hT _ _).mono ?_
        rintro e w52 ⟨rfl, rfl⟩
        rw [h4]
        go_wp2_with fail
        refine (join_any _ _ _).mono ?_
        rintro e w53 ⟨rfl, rfl⟩
        go_wp2_with fail
        refine (fits_any _ hT _ _).mono ?_
        rintro e w54 ⟨rfl, rfl⟩
        rw [fit_both a b c h3 h4]
        go_wp2_with fail
        refine (fits_any _ hT _ _).mono ?_
        rintro e w45 ⟨rfl, rfl⟩
        go_wp2_with fail
        refine (fits_any _ hT _ _).mono ?_
        rintro e w46 ⟨rfl, rfl⟩
        rw [hcm.out]
        go_wp2_with fail
        refine (covers_any _ _ _).mono ?_
        rintro e w47 ⟨rfl, rfl⟩
        rw [hab.out]
        go_wp2_with fail
        refine (above_any _ _).mono ?_
        rintro e w48 ⟨rfl, rfl⟩
        go_wp2_with fail
        go_ret
        exact ⟨rfl, rfl⟩
  · refine (covers_any _ _ _).mono ?_
    rintro e w56 ⟨rfl, rfl⟩
    rw [h1]
    go_wp2_with fail
    cases h2 : fitM c b
    · refine (fits_any _ hT _ _).mono ?_
      rintro e w57 ⟨rfl, rfl⟩
      rw [h2]
      go_wp2_with fail
      cases h3 : fitM a c
      · refine (fits_any _ hT _ _).mono ?_
        rintro e w49 ⟨rfl, rfl⟩
        rw [h3]
        go_wp2_with fail
        refine (fits_any _ hT _ _).mono ?_
        rintro e w45 ⟨rfl, rfl⟩
        go_wp2_with fail
        refine (fits_any _ hT _ _).mono ?_
        rintro e w46 ⟨rfl, rfl⟩
        rw [hcm.out]
        go_wp2_with fail
        refine (covers_any _ _ _).mono ?_
        rintro e w47 ⟨rfl, rfl⟩
        rw [hab.out]
        go_wp2_with fail
        refine (above_any _ _).mono ?_
        rintro e w48 ⟨rfl, rfl⟩
        go_wp2_with fail
        go_ret
        exact ⟨rfl, rfl⟩
      · refine (fits_any _ hT _ _).mono ?_
        rintro e w50 ⟨rfl, rfl⟩
        rw [h3]
        go_wp2_with fail
        cases h4 : fitM b c
        · refine (fits_any _ hT _ _).mono ?_
          rintro e w51 ⟨rfl, rfl⟩
          rw [h4]
          go_wp2_with fail
          refine (fits_any _ hT _ _).mono ?_
          rintro e w45 ⟨rfl, rfl⟩
          go_wp2_with fail
          refine (fits_any _ hT _ _).mono ?_
          rintro e w46 ⟨rfl, rfl⟩
          rw [hcm.out]
          go_wp2_with fail
          refine (covers_any _ _ _).mono ?_
          rintro e w47 ⟨rfl, rfl⟩
          rw [hab.out]
          go_wp2_with fail
          refine (above_any _ _).mono ?_
          rintro e w48 ⟨rfl, rfl⟩
          go_wp2_with fail
          go_ret
          exact ⟨rfl, rfl⟩
        · refine (fits_any _ hT _ _).mono ?_
          rintro e w52 ⟨rfl, rfl⟩
          rw [h4]
          go_wp2_with fail
          refine (join_any _ _ _).mono ?_
          rintro e w53 ⟨rfl, rfl⟩
          go_wp2_with fail
          refine (fits_any _ hT _ _).mono ?_
          rintro e w54 ⟨rfl, rfl⟩
          rw [fit_both a b c h3 h4]
          go_wp2_with fail
          refine (fits_any _ hT _ _).mono ?_
          rintro e w45 ⟨rfl, rfl⟩
          go_wp2_with fail
          refine (fits_any _ hT _ _).mono ?_
          rintro e w46 ⟨rfl, rfl⟩
          rw [hcm.out]
          go_wp2_with fail
          refine (covers_any _ _ _).mono ?_
          rintro e w47 ⟨rfl, rfl⟩
          rw [hab.out]
          go_wp2_with fail
          refine (above_any _ _).mono ?_
          rintro e w48 ⟨rfl, rfl⟩
          go_wp2_with fail
          go_ret
          exact ⟨rfl, rfl⟩
    · refine (fits_any _ hT _ _).mono ?_
      rintro e w58 ⟨rfl, rfl⟩
      rw [h2]
      go_wp2_with fail
      refine (fits_any _ hT _ _).mono ?_
      rintro e w59 ⟨rfl, rfl⟩
      rw [fit_less a b c h1 h2]
      go_wp2_with fail
      cases h3 : fitM a c
      · refine (fits_any _ hT _ _).mono ?_
        rintro e w49 ⟨rfl, rfl⟩
        rw [h3]
        go_wp2_with fail
        refine (fits_any _ hT _ _).mono ?_
        rintro e w45 ⟨rfl, rfl⟩
        go_wp2_with fail
        refine (fits_any _ hT _ _).mono ?_
        rintro e w46 ⟨rfl, rfl⟩
        rw [hcm.out]
        go_wp2_with fail
        refine (covers_any _ _ _).mono ?_
        rintro e w47 ⟨rfl, rfl⟩
        rw [hab.out]
        go_wp2_with fail
        refine (above_any _ _).mono ?_
        rintro e w48 ⟨rfl, rfl⟩
        go_wp2_with fail
        go_ret
        exact ⟨rfl, rfl⟩
      · refine (fits_any _ hT _ _).mono ?_
        rintro e w50 ⟨rfl, rfl⟩
        rw [h3]
        go_wp2_with fail
        cases h4 : fitM b c
        · refine (fits_any _ hT _ _).mono ?_
          rintro e w51 ⟨rfl, rfl⟩
          rw [h4]
          go_wp2_with fail
          refine (fits_any _ hT _ _).mono ?_
          rintro e w45 ⟨rfl, rfl⟩
          go_wp2_with fail
          refine (fits_any _ hT _ _).mono ?_
          rintro e w46 ⟨rfl, rfl⟩
          rw [hcm.out]
          go_wp2_with fail
          refine (covers_any _ _ _).mono ?_
          rintro e w47 ⟨rfl, rfl⟩
          rw [hab.out]
          go_wp2_with fail
          refine (above_any _ _).mono ?_
          rintro e w48 ⟨rfl, rfl⟩
          go_wp2_with fail
          go_ret
          exact ⟨rfl, rfl⟩
        · refine (fits_any _ hT _ _).mono ?_
          rintro e w52 ⟨rfl, rfl⟩
          rw [h4]
          go_wp2_with fail
          refine (join_any _ _ _).mono ?_
          rintro e w53 ⟨rfl, rfl⟩
          go_wp2_with fail
          refine (fits_any _ hT _ _).mono ?_
          rintro e w54 ⟨rfl, rfl⟩
          rw [fit_both a b c h3 h4]
          go_wp2_with fail
          refine (fits_any _ hT _ _).mono ?_
          rintro e w45 ⟨rfl, rfl⟩
          go_wp2_with fail
          refine (fits_any _ hT _ _).mono ?_
          rintro e w46 ⟨rfl, rfl⟩
          rw [hcm.out]
          go_wp2_with fail
          refine (covers_any _ _ _).mono ?_
          rintro e w47 ⟨rfl, rfl⟩
          rw [hab.out]
          go_wp2_with fail
          refine (above_any _ _).mono ?_
          rintro e w48 ⟨rfl, rfl⟩
          go_wp2_with fail
          go_ret
          exact ⟨rfl, rfl⟩
set_option maxRecDepth 100000 in
set_option maxHeartbeats 4000000 in
theorem ModeUp_w (w : World) (hT : TabAt w) (a b c : Int) : Calls Tryd.prog 6 #[.int .i64 a, .int .i64 b, .int .i64 c] w fun e w' => e = .returned (.bool true) ∧ w' = w := by
  go_enter Tryd.func6, Tryd.ntmps6
  go_wp2_with fail
  refine (awake9_any _ hT ).mono ?_
  rintro e w75 ⟨rfl, rfl⟩
  go_wp2_with fail
  cases h1 : covM a b
  · refine (covers_any _ _ _).mono ?_
    rintro e w61 ⟨rfl, rfl⟩
    rw [h1]
    go_wp2_with fail
    refine (covers_any _ _ _).mono ?_
    rintro e w62 ⟨rfl, rfl⟩
    rw [h1]
    go_wp2_with fail
    refine (covers_any _ _ _).mono ?_
    rintro e w63 ⟨rfl, rfl⟩
    rw [h1]
    go_wp2_with fail
    go_ret
    exact ⟨rfl, rfl⟩
  · refine (covers_any _ _ _).mono ?_
    rintro e w67 ⟨rfl, rfl⟩
    rw [h1]
    go_wp2_with fail
    refine (above_any _ _).mono ?_
    rintro e w68 ⟨rfl, rfl⟩
    go_wp2_with fail
    refine (above_any _ _).mono ?_
    rintro e w69 ⟨rfl, rfl⟩
    go_wp2_with fail
    refine (covers_any _ _ _).mono ?_
    rintro e w70 ⟨rfl, rfl⟩
    rw [abo_up a b h1]
    go_wp2_with fail
    refine (covers_any _ _ _).mono ?_
    rintro e w71 ⟨rfl, rfl⟩
    rw [h1]
    go_wp2_with fail
    cases h4 : covM b c
    · refine (covers_any _ _ _).mono ?_
      rintro e w72 ⟨rfl, rfl⟩
      rw [h4]
      go_wp2_with fail
      refine (covers_any _ _ _).mono ?_
      rintro e w66 ⟨rfl, rfl⟩
      rw [h1]
      go_wp2_with fail
      cases h6 : covM b a
      · refine (covers_any _ _ _).mono ?_
        rintro e w64 ⟨rfl, rfl⟩
        rw [h6]
        go_wp2_with fail
        go_ret
        exact ⟨rfl, rfl⟩
      · refine (covers_any _ _ _).mono ?_
        rintro e w65 ⟨rfl, rfl⟩
        rw [h6]
        have e : (a == b) = true := beq_iff_eq.2 (cov_anti a b h1 h6)
        have e2 : decide (a = b) = true := decide_eq_true (cov_anti a b h1 h6)
        go_wp2_with fail
        go_ret
        exact ⟨rfl, rfl⟩
    · refine (covers_any _ _ _).mono ?_
      rintro e w73 ⟨rfl, rfl⟩
      rw [h4]
      go_wp2_with fail
      refine (covers_any _ _ _).mono ?_
      rintro e w74 ⟨rfl, rfl⟩
      rw [cov_trans a b c h1 h4]
      go_wp2_with fail
      refine (covers_any _ _ _).mono ?_
      rintro e w66 ⟨rfl, rfl⟩
      rw [h1]
      go_wp2_with fail
      cases h6 : covM b a
      · refine (covers_any _ _ _).mono ?_
        rintro e w64 ⟨rfl, rfl⟩
        rw [h6]
        go_wp2_with fail
        go_ret
        exact ⟨rfl, rfl⟩
      · refine (covers_any _ _ _).mono ?_
        rintro e w65 ⟨rfl, rfl⟩
        rw [h6]
        have e : (a == b) = true := beq_iff_eq.2 (cov_anti a b h1 h6)
        have e2 : decide (a = b) = true := decide_eq_true (cov_anti a b h1 h6)
        go_wp2_with fail
        go_ret
        exact ⟨rfl, rfl⟩
end Go.Proofs.YtdjnpnbobedgoaaDoor
