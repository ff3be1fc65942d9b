/-
  THE WALKS OF chain's OWN Read, Newer, Install, Vacuum: the contracts of chain, whole ('chnC').
-/
import Derived.WalkKit
import Derived.WalkSpells
import Derived.WalkLawsBesides
import Derived.Lib.Hide
import Derived.Deep.Cut
import Derived.Test.YtemdcpajcaaphaaProg
import Derived.Test.YtemdcpajcaaphaaByte
import Derived.Test.YtemdcpajcaaphaaAux
import Derived.Test.YtemdcpajcaaphaaOctB
import Derived.Test.YtemdcpajcaaphaaVer
import Derived.Test.YtemdcpajcaaphaaVerM
import Derived.Test.YtemdcpajcaaphaaVerN
import Derived.Test.YtemdcpajcaaphaaVerX
import Derived.Test.YtemdcpajcaaphaaVerP
import Derived.Test.YtemdcpajcaaphaaVerQ
import Derived.Test.YtemdcpajcaaphaaVerK
import Derived.Test.YtemdcpajcaaphaaVerA
namespace Go.Proofs.Ytemdcpajcaaphaa
open Go.RowKit
theorem readV_not {l : List Ver} {s : Int} (h : ¬ okV l) : readV l s = none := by unfold readV; rw [if_neg h]
theorem newerV_not {l : List Ver} {s : Int} (h : ¬ okV l) : newerV l s = false := by unfold newerV; rw [decide_eq_false h]; rfl
theorem vacV_not {l : List Ver} {s : Int} (h : ¬ okV l) : vacV l s = l := by unfold vacV; rw [if_neg h]
theorem small_mem {l : List Ver} (h : smallV l) {m : Nat} (hm : m < l.length) : l[m].value.length ≤ 1000000 := by
  have := h.2 _ (List.getElem_mem hm)
  omega
set_option maxRecDepth 100000 in
set_option maxHeartbeats 1000000 in
theorem chRead_any (w : World) {S : Nat → Prop} {a : Option Addr} {n c : Nat} {l : List Ver} {s : Int} (hl : RdL Elt.ver S w (.slice a n c) l) (hsm : smallV l) :
    Calls Try.prog 12 #[.slice a n c, .int .i64 s] w (ReadVEnd w l s) := by
  obtain ⟨rfl, hnc, hcm⟩ := hl.len
  have hln : l.length ≤ 1000 := hsm.1
  have q := Below.refl w.heap.size w
  go_enter Try.func12, Try.ntmps12
  go_wp2_with fail
  refine (chCheck_any _ hl).mono ?_
  rintro e w1 ⟨rfl, hb⟩
  replace q := q.trans (hb.mono q.size)
  clear hb
  by_cases hk : okV l
  · rw [decide_eq_true hk]
    go_wp2_with fail
    refine (upTo_any (s := s) _ (hl.below q) hk hln).mono ?_
    rintro e w2 ⟨rfl, hb⟩
    replace q := q.trans (hb.mono q.size)
    clear hb
    have hle := cntV_le l s
    cases hc : cntV l s with
    | zero =>
      have hz := Lib.hid (readV_zero hc)
      clear hc hle
      go_wp2_with fail
      go_ret2
      exact ReadVEnd.no hz.out q
    | succ m =>
      have hm : m < l.length := by omega
      have d0 : (((m + 1 : Nat) : Int) == 0) = false := by rw [beq_eq_false_iff_ne]; omega
      have e1 : ((m + 1 : Nat) : Int) - 1 = (m : Int) := by omega
      obtain ⟨b, off, A, C, rfl, hb, c0, c1, c2, hv, hi, hn1, hn2⟩ := (hl.below q).ver m hm
      cases hg : l[m].gone with
      | true =>
        rw [hg] at c1
        have hz := Lib.hid (readV_gone hc hm hg)
        clear hc hle hg
        go_wp2_with fail
        go_ret2
        exact ReadVEnd.no hz.out q
      | false =>
        rw [hg] at c1
        have hz := Lib.hid (readV_some hk hc hm hg)
        have hvl := small_mem hsm hm
        clear hc hle hg
        go_wp2_with fail
        refine (clone_any _ hv.rd (Nat.le_refl _) hvl).mono ?_
        rintro e w3 ⟨A2, k2, C2, rfl, hF⟩
        obtain ⟨rfl, _, _⟩ := (Own.rdS hF.2).len
        go_wp2_with fail
        go_ret2
        exact ReadVEnd.yes hz.out ((Own.rdS hF.2).weak fun k hk => ⟨Nat.le_trans q.size hk.1, hk.2⟩) (q.trans (hF.1.mono q.size))
  · rw [decide_eq_false hk]
    have hz := Lib.hid (readV_not (s := s) hk)
    clear hk
    go_wp2_with fail
    go_ret2
    exact ReadVEnd.no hz.out q
set_option maxRecDepth 100000 in
set_option maxHeartbeats 1000000 in
theorem chNewer_any (w : World) {S : Nat → Prop} {a : Option Addr} {n c : Nat} {l : List Ver} {s : Int} (hl : RdL Elt.ver S w (.slice a n c) l) (hsm : smallV l) :
    Calls Try.prog 21 #[.slice a n c, .int .i64 s] w fun e w' => e = .returned (.bool (newerV l s)) ∧ Below w.heap.size w w' := by
  obtain ⟨rfl, hnc, hcm⟩ := hl.len
  have hln : l.length ≤ 1000 := hsm.1
  have q := Below.refl w.heap.size w
  go_enter Try.func21, Try.ntmps21
  go_wp2_with fail
  refine (chCheck_any _ hl).mono ?_
  rintro e w1 ⟨rfl, hb⟩
  replace q := q.trans (hb.mono q.size)
  clear hb
  by_cases hk : okV l
  · rw [decide_eq_true hk]
    go_wp2_with fail
    refine (upTo_any (s := s) _ (hl.below q) hk hln).mono ?_
    rintro e w2 ⟨rfl, hb⟩
    replace q := q.trans (hb.mono q.size)
    clear hb
    have hz := Lib.hid (newer_cnt hk s)
    go_wp2_with fail
    go_ret
    exact ⟨by rw [hz.out]; simp, q⟩
  · rw [decide_eq_false hk]
    have hz := Lib.hid (newerV_not (s := s) hk)
    clear hk
    go_wp2_with fail
    go_ret
    exact ⟨by rw [hz.out]; rfl, q⟩
theorem VersNew.from {w w1 w2 : World} {l : List Ver} {e : Ending} (q : Below w.heap.size w w1) (h : VersNew w1 l e w2) : VersNew w l e w2 := by
  obtain ⟨a, c, rfl, hr, hb⟩ := h
  exact ⟨a, c, rfl, hr.weak fun k hk => ⟨Nat.le_trans q.size hk.1, hk.2⟩, q.trans (hb.mono q.size)⟩
theorem small_all {l : List Ver} (h : smallV l) : ∀ x ∈ l ++ ([] : List Ver), x.value.length ≤ 1000000 := fun x hx => by
  rw [List.append_nil] at hx
  have := h.2 x hx
  omega
set_option maxRecDepth 100000 in
set_option maxHeartbeats 1000000 in
theorem chVacuum_any (w : World) {S : Nat → Prop} {a : Option Addr} {n c : Nat} {l : List Ver} {s : Int} (hl : RdL Elt.ver S w (.slice a n c) l) (hsm : smallV l) :
    Calls Try.prog 17 #[.slice a n c, .int .i64 s] w (VersNew w (vacV l s)) := by
  obtain ⟨rfl, hnc, hcm⟩ := hl.len
  have hln : l.length ≤ 1000 := hsm.1
  have q := Below.refl w.heap.size w
  go_enter Try.func17, Try.ntmps17
  go_wp2_with fail
  refine (chCheck_any _ hl).mono ?_
  rintro e w1 ⟨rfl, hb⟩
  replace q := q.trans (hb.mono q.size)
  clear hb
  by_cases hk : okV l
  · rw [decide_eq_true hk]
    go_wp2_with fail
    refine (upTo_any (s := s) _ (hl.below q) hk hln).mono ?_
    rintro e w2 ⟨rfl, hb⟩
    replace q := q.trans (hb.mono q.size)
    clear hb
    have hle := cntV_le l s
    have hl2 := hl.below q
    cases hc : cntV l s with
    | zero =>
      have hz := Lib.hid (show l.drop 0 = vacV l s from (vacV_zero hc).symm)
      clear hc hle
      have hlo : l.drop (0) = (l.drop (0)).take (l.length - (0)) := (List.take_of_length_le (by rw [List.length_drop]; omega)).symm
      have hnk : 0 ≤ l.length := by omega
      go_wp2_with (first | (refine wpList_sliceL verP.toLsP rfl rfl rfl hl2 (run_bounds_l' _ (l := 0) (by omega) hnk) ?_ hnk (Nat.le_refl _); intro ad2 cc2 hrd; rw [← hlo] at hrd) | fail)
      refine (copied_any _ hrd (RdL.nil Elt.ver (fun _ => False) _) (by rw [List.length_drop]; omega) (by simp) (small_all ⟨by rw [List.length_drop]; omega, fun y hy => hsm.2 y (List.mem_of_mem_drop hy)⟩)).mono ?_
      rintro e w3 hE
      rw [List.append_nil] at hE
      rw [hz.out] at hE
      obtain ⟨a3, c3, rfl, hr, hb3⟩ := VersNew.from q hE
      go_wp2_with fail
      go_ret
      exact ⟨_, _, rfl, hr, hb3⟩
    | succ m =>
      have hm : m < l.length := by omega
      have d0 : decide ((0 : Int) < ((m + 1 : Nat) : Int)) = true := decide_eq_true (by omega)
      have e1 : ((m + 1 : Nat) : Int) - 1 = (m : Int) := by omega
      obtain ⟨b, off, A, C, rfl, hb, c0, c1, c2, hv, hi, hn1, hn2⟩ := hl2.ver m hm
      cases hg : l[m].gone with
      | true =>
        rw [hg] at c1
        have hz := Lib.hid (vacV_gone hk hc hm hg).symm
        clear hg
        clear hc hle
        have hlo : l.drop (m + 1) = (l.drop (m + 1)).take (l.length - (m + 1)) := (List.take_of_length_le (by rw [List.length_drop]; omega)).symm
        have hnk : m + 1 ≤ l.length := by omega
        go_wp2_with (first | (refine wpList_sliceL verP.toLsP rfl rfl rfl hl2 (run_bounds_l' _ (l := m + 1) (by omega) hnk) ?_ hnk (Nat.le_refl _); intro ad2 cc2 hrd; rw [← hlo] at hrd) | fail)
        refine (copied_any _ hrd (RdL.nil Elt.ver (fun _ => False) _) (by rw [List.length_drop]; omega) (by simp) (small_all ⟨by rw [List.length_drop]; omega, fun y hy => hsm.2 y (List.mem_of_mem_drop hy)⟩)).mono ?_
        rintro e w3 hE
        rw [List.append_nil] at hE
        rw [hz.out] at hE
        obtain ⟨a3, c3, rfl, hr, hb3⟩ := VersNew.from q hE
        go_wp2_with fail
        go_ret
        exact ⟨_, _, rfl, hr, hb3⟩
      | false =>
        rw [hg] at c1
        have hz := Lib.hid (vacV_some hk hc hm hg).symm
        clear hg
        clear hc hle
        have hlo : l.drop (m) = (l.drop (m)).take (l.length - (m)) := (List.take_of_length_le (by rw [List.length_drop]; omega)).symm
        have hnk : m ≤ l.length := by omega
        go_wp2_with (first | (refine wpList_sliceL verP.toLsP rfl rfl rfl hl2 (run_bounds_l' _ (l := m) (by omega) hnk) ?_ hnk (Nat.le_refl _); intro ad2 cc2 hrd; rw [← hlo] at hrd) | fail)
        refine (copied_any _ hrd (RdL.nil Elt.ver (fun _ => False) _) (by rw [List.length_drop]; omega) (by simp) (small_all ⟨by rw [List.length_drop]; omega, fun y hy => hsm.2 y (List.mem_of_mem_drop hy)⟩)).mono ?_
        rintro e w3 hE
        rw [List.append_nil] at hE
        rw [hz.out] at hE
        obtain ⟨a3, c3, rfl, hr, hb3⟩ := VersNew.from q hE
        go_wp2_with fail
        go_ret
        exact ⟨_, _, rfl, hr, hb3⟩
  · rw [decide_eq_false hk]
    have hz := Lib.hid (vacV_not (s := s) hk)
    clear hk
    go_wp2_with fail
    refine (copied_any _ (hl.below q) (RdL.nil Elt.ver (fun _ => False) _) (by omega) (by simp) (small_all hsm)).mono ?_
    rintro e w3 hE
    rw [List.append_nil] at hE
    obtain ⟨a3, c3, rfl, hr, hb⟩ := VersNew.from q hE
    go_wp2_with fail
    go_ret
    rw [hz.out]
    exact ⟨_, _, rfl, hr, hb⟩
set_option maxRecDepth 100000 in
set_option maxHeartbeats 1000000 in
theorem ver_one (w1 : World) {S : Nat → Prop} {x : Ver} {v : Value} (h1 : RdS S w1 v x.value) (hi : I64' x.stamp) :
    RdL Elt.ver (fun _ => True) (w1.alloc (.cells #[.int .i64 x.stamp, .bool x.gone, v] 25)) (.slice (some ⟨w1.heap.size, 0, none⟩) 1 1) [x] := by
  have hb := (Below.refl w1.heap.size w1).alloc (Nat.le_refl _) (.cells #[.int .i64 x.stamp, .bool x.gone, v] 25)
  have hc := cells_new w1 [.int .i64 x.stamp, .bool x.gone, v] 25
  have g1 := h1.below hb
  simp only [Addr.add_lit] at hc
  have c0 := hc 0 _ rfl
  have c1 := hc 1 _ rfl
  have c2 := hc 2 _ rfl
  clear hc hb
  generalize w1.alloc (.cells #[.int .i64 x.stamp, .bool x.gone, v] 25) = w2 at *
  refine ⟨_, 1, rfl, Nat.le_refl _, by unfold maxLen; omega, .inr ⟨w1.heap.size, 0, rfl, trivial, fun r hr => ?_⟩⟩
  obtain rfl : r = 0 := by simp at hr; omega
  refine ⟨verC x v, ⟨v, rfl, g1.weak fun _ _ => trivial, hi⟩, fun j u hu => ?_⟩
  rcases j with _ | _ | _ | j
  · cases hu; exact c0
  · cases hu; exact c1
  · cases hu; exact c2
  · simp [verC] at hu
/-- Whether one is not below a stamp. -/
theorem inst_cnt {l : List Ver} {x : Ver} (hk : okV l) (hm : mayV x) : (cntV l (x.stamp - 1) < l.length ∧ instV l x = (l, 50)) ∨ (¬ cntV l (x.stamp - 1) < l.length ∧ instV l x = (l ++ [x], 0)) := by
  have hle := cntV_le l (x.stamp - 1)
  rcases Nat.eq_zero_or_pos l.length with h0 | h0
  · exact .inr ⟨by omega, instV_nil h0 hm⟩
  · obtain ⟨m, hml⟩ : ∃ m, l.length = m + 1 := ⟨l.length - 1, by omega⟩
    have h1 := cnt_iff hk (x.stamp - 1) (i := m) (by omega)
    by_cases hs : x.stamp ≤ (l[m]'(by omega)).stamp
    · refine .inl ⟨?_, instV_old hk hm hml hs⟩
      have := mt h1.2 (by omega)
      omega
    · refine .inr ⟨?_, instV_new hk hm hml hs⟩
      have := h1.1 (by omega)
      omega
theorem InstNew.of {w w' : World} {l l2 : List Ver} {x : Ver} {er : Nat} {a : Option Addr} {c : Nat} (h : instV l x = (l2, er)) (hr : RdL Elt.ver (fun k => w.heap.size ≤ k ∧ k < w'.heap.size) w' (.slice a l2.length c) l2) (hb : Below w.heap.size w w') : InstNew w l x (.returned (.tuple #[.slice a l2.length c, .int .i64 er])) w' := by
  unfold InstNew
  rw [h]
  exact ⟨a, c, rfl, hr, hb⟩
set_option maxRecDepth 100000 in
set_option maxHeartbeats 1000000 in
theorem chInstall_any (w : World) {S : Nat → Prop} {a : Option Addr} {n c : Nat} {l : List Ver} {x : Ver} {Ax : Option Addr} {nx Cx : Nat} (hl : RdL Elt.ver S w (.slice a n c) l) (hsm : smallV l) (hx : RdS S w (.slice Ax nx Cx) x.value) (hxl : x.value.length ≤ 1000) (hxi : I64' x.stamp) :
    Calls Try.prog 14 #[.slice a n c, .agg #[.int .i64 x.stamp, .bool x.gone, .slice Ax nx Cx]] w (InstNew w l x) := by
  obtain ⟨rfl, hnc, hcm⟩ := hl.len
  obtain ⟨rfl, _, _⟩ := hx.len
  have hln : l.length ≤ 1000 := hsm.1
  have hT := TriV.new w 25 (.int .i64 x.stamp) (.bool x.gone) (.slice Ax x.value.length Cx)
  have q : Below w.heap.size w (w.alloc (.cells #[.int .i64 x.stamp, .bool x.gone, .slice Ax x.value.length Cx] 25)) := (Below.refl _ _).alloc (Nat.le_refl _) _
  go_enter Try.func14, Try.ntmps14
  go_upto_region 1 with (fail)
  generalize w.alloc (.cells #[.int .i64 x.stamp, .bool x.gone, .slice Ax x.value.length Cx] 25) = W at *
  go_wp2_with fail
  refine (chCheck_any _ (hl.below q)).mono ?_
  rintro e w1 ⟨rfl, hb⟩
  replace q := q.trans (hb.mono q.size)
  replace hT := hT.below hb hT.lt
  clear hb
  by_cases hk : okV l
  · rw [decide_eq_true hk]
    have t0 := hT.cell0
    have t1 := hT.cell1
    have t2 := hT.cell2
    go_wp2_with fail
    refine (alone_any _ (hx.below q)).mono ?_
    rintro e w2 ⟨rfl, hb⟩
    replace q := q.trans (hb.mono q.size)
    replace hT := hT.below hb hT.lt
    clear hb t0 t1 t2
    have t0 := hT.cell0
    by_cases hm : mayV x
    · rw [show decide (mayV ⟨x.stamp, x.gone, x.value⟩) = true from decide_eq_true hm]
      have hi := hm.1
      have hi2 := hm.2.1
      go_wp2_with fail
      refine (upTo_any (s := x.stamp - 1) _ (hl.below q) hk hln).mono ?_
      rintro e w3 ⟨rfl, hb⟩
      replace q := q.trans (hb.mono q.size)
      replace hT := hT.below hb hT.lt
      clear hb t0
      rcases inst_cnt hk hm with ⟨hc, hz⟩ | ⟨hc, hz⟩
      · have HZ := Lib.hid hz
        clear hz
        go_wp2_with fail
        refine (copied_any _ (hl.below q) (RdL.nil Elt.ver (fun _ => False) _) (by omega) (by simp) (small_all hsm)).mono ?_
        rintro e w4 hE
        rw [List.append_nil] at hE
        obtain ⟨a3, c3, rfl, hr, hb⟩ := VersNew.from q hE
        go_wp2_with fail
        go_ret2
        exact InstNew.of HZ.out hr hb
      · have HZ := Lib.hid hz
        clear hz
        have t0 := hT.cell0
        have t1 := hT.cell1
        have t2 := hT.cell2
        have hone := ver_one w3 (hx.below q) hxi
        have q' : Below w.heap.size w (w3.alloc (.cells #[.int .i64 x.stamp, .bool x.gone, .slice Ax x.value.length Cx] 25)) := q.alloc q.size _
        have hxs : ∀ y ∈ l ++ [x], y.value.length ≤ 1000000 := fun y hy => by
          rcases List.mem_append.1 hy with h | h
          · have := hsm.2 y h; omega
          · obtain rfl : y = x := by simpa using h
            omega
        have hl' := Lib.hid (show (l ++ [x]).length = l.length + 1 by simp)
        generalize hlx : l ++ [x] = lx at *
        go_wp2_with fail
        refine (copied_any _ (hl.below q') hone (by omega) (by simp) (by rw [hlx]; exact hxs)).mono ?_
        rintro e w4 hE
        rw [hlx] at hE
        obtain ⟨a3, c3, rfl, hr, hb⟩ := VersNew.from q' hE
        go_wp2_with fail
        go_ret2
        exact InstNew.of HZ.out hr hb
    · rw [show decide (mayV ⟨x.stamp, x.gone, x.value⟩) = false from decide_eq_false hm]
      have HZ := Lib.hid (instV_arg (l := l) (x := x) (fun h => hm h.2))
      clear hm t0
      go_wp2_with fail
      refine (copied_any _ (hl.below q) (RdL.nil Elt.ver (fun _ => False) _) (by omega) (by simp) (small_all hsm)).mono ?_
      rintro e w4 hE
      rw [List.append_nil] at hE
      obtain ⟨a3, c3, rfl, hr, hb⟩ := VersNew.from q hE
      go_wp2_with fail
      go_ret2
      exact InstNew.of HZ.out hr hb
  · rw [decide_eq_false hk]
    have HZ := Lib.hid (instV_arg (l := l) (x := x) (fun h => hk h.1))
    clear hk
    go_wp2_with fail
    refine (copied_any _ (hl.below q) (RdL.nil Elt.ver (fun _ => False) _) (by omega) (by simp) (small_all hsm)).mono ?_
    rintro e w4 hE
    rw [List.append_nil] at hE
    obtain ⟨a3, c3, rfl, hr, hb⟩ := VersNew.from q hE
    go_wp2_with fail
    go_ret2
    exact InstNew.of HZ.out hr hb
theorem chnC0 : ChnC0 where
  check w {_ _ _ _ _} hl := chCheck_any w hl
  read w {_ _ _ _ _ _} hl hs _ := chRead_any w hl hs
  newer w {_ _ _ _ _ _} hl hs _ := chNewer_any w hl hs
  install w {_ _ _ _ _ _ _ _ _} hl hs hx hxl hi := chInstall_any w hl hs hx hxl hi
  vacuum w {_ _ _ _ _ _} hl hs _ := chVacuum_any w hl hs
theorem chnC : ChnC := chnC0.full
end Go.Proofs.Ytemdcpajcaaphaa
