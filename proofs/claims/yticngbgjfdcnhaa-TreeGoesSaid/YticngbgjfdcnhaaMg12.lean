/-
  TEXTS OF ONE PROOF, merged: TraP, TraQ, TraW, TraX, TraY, Range, TreV, TrbA, TrbB.
-/
import Derived.LoopIn
import Derived.LoopNIn
import Derived.OwnWalkIn
import Derived.RangeFuncBound
import Derived.RangeFuncLeaves
import Derived.RangeFuncNested
import Derived.ScopeJumps
import Derived.Shelf.RegionOpen
import Derived.Sort.CutIn
import Derived.TacticsInMore
import Derived.WalkMore
import Derived.Test.YticngbgjfdcnhaaMg11
namespace Go.Proofs.Yticngbgjfdcnhaa
open Go.RowKit
theorem out_find {last : Bool} {n : Nd} {p : Pr} (hs : Srt (pairsN n)) (h : OutP last n p) : findP (pairsN n) p.key ≠ none := by
  have hm : p ∈ pairsN n := by
    unfold OutP at h
    cases last with
    | true => rw [if_pos rfl] at h; obtain ⟨X, e⟩ := h; rw [e]; simp
    | false => rw [if_neg (by simp)] at h; obtain ⟨X, e⟩ := h; rw [e]; simp
  rw [findP_mem hs hm]
  simp
def TwoR (g1 g2 : Nat) (V1 V2 : Value) (n1 n2 : Nat) (us1 us2 : List Value) : List Value → World → Value → World → Prop
  | [], W, _, W' => W.grownBy W' (some g1) ∧ RowQ 32 1 W' V1 n1 us1
  | [_], W, _, W' => W.grownBy W' (some g2) ∧ RowQ 37 1 W' V2 n2 us2
  | _, _, _, _ => False
def fpT (g1 g2 : Nat) : Nat → Nat → Prop
  | 0, k => k = g1
  | 1, k => k = g2
  | _, _ => False
theorem twoR_trd {g1 g2 : Nat} {V1 V2 : Value} {n1 n2 : Nat} {us1 us2 : List Value} : ∀ (l : List Value) (W : World) (v : Value) (W' : World), TwoR g1 g2 V1 V2 n1 n2 us1 us2 l W v W' → Trd (fun k => fpT g1 g2 l.length k) W W'
  | [], _, _, _, ⟨h, _⟩ => Trd.ofGrown h fun _ hk => by injection hk with hk; exact hk.symm
  | [_], _, _, _, ⟨h, _⟩ => Trd.ofGrown h fun _ hk => by injection hk with hk; exact hk.symm
  | _ :: _ :: _, _, _, _, h => h.elim
theorem fpT_not {g1 g2 g : Nat} (h1 : g ≠ g1) (h2 : g ≠ g2) (N : Nat) : ¬ ∃ p, p < N ∧ fpT g1 g2 p g := by
  rintro ⟨p, _, h⟩
  rcases p with _ | _ | p
  · exact h1 h
  · exact h2 h
  · exact h
def ReplacedAt (d : Nat) : Prop := ∀ (w : World) (D : Nat → Prop) (v : Value) (n : Nd) (F : List Nat) (i : Nat) (k : List UInt8),
  NdAt D w v n F → Pn (d + 1) n → isF n.keys k = true → i = plcF n.keys k → 0 < n.kids.length → Calls Try.prog 36 #[v, .int .i64 i] w (NdTo D w F (DelN (d + 1) n k))
set_option maxRecDepth 100000 in
set_option maxHeartbeats 8000000 in
theorem replaced_step (d : Nat) (ihR : ReducedAt d) : ReplacedAt d := by
  intro w D v n F i k h hp his hi hk0
  obtain ⟨d', e', hd', hkl, _, _, hws⟩ := hp.kid hk0
  obtain rfl : d = d' := by omega
  have hkk := hp.wf.keys.2
  obtain ⟨hsh1, _⟩ := hp.wf.shape
  obtain ⟨hlt, _⟩ := is_get his
  rw [← hi] at hlt
  have hlc : i < n.chains.length := by omega
  obtain ⟨a1, c1, a2, c2, g3, c3, us1, us2, us3, F3, rfl, p⟩ := h.opk (by omega)
  obtain ⟨W, hW, q, bn, bz, hsz⟩ := triBoxes2 w 28 (.slice a1 n.keys.length c1) (.slice a2 n.chains.length c2) (.slice (Option.some ⟨g3, 0, none⟩) n.kids.length c3) (.slice none 0 0) (.slice none 0 0) (.slice none 0 0)
  have s0 := NdOf.start (lo := w.heap.size + 2) h q (by omega) (by omega)
  have hbs := beside_any W s0.at' (i := i) (by omega) (by omega)
  have tn0 := bn.cell0
  have tn1 := bn.cell1
  have tn2 := bn.cell2
  obtain ⟨fs, hu, _⟩ := ndS.hu
  have hs1a := Nat.le_of_eq hsh1
  have hs1b := Nat.le_of_eq hsh1.symm
  have hkla := Nat.le_of_eq hkl
  have hklb := Nat.le_of_eq hkl.symm
  replace hi := Lib.hid hi
  replace his := Lib.hid his
  replace hsh1 := Lib.hid hsh1
  replace hkl := Lib.hid hkl
  clear e' p
  go_enter Try.func36, Try.ntmps36
  go_upto_region 1 with (fail)
  rw [← hW]
  clear hW hsz
  go_wp2_with fail
  refine hbs.mono ?_
  rintro e w1 ⟨⟨last, rfl⟩, hb1⟩
  obtain ⟨qx, hqx⟩ : ∃ qx, qx = (if last then i else i + 1) := ⟨_, rfl⟩
  have hql : qx < n.kids.length := by rw [hqx]; split <;> omega
  rw [← hqx]
  replace hqx := Lib.hid hqx
  have s1 := s0.more hb1
  have bn1 := bn.below hb1 bn.lt
  have bz1 := bz.below hb1 bz.lt
  clear bn bz tn0 tn1 tn2 s0 hbs
  obtain ⟨xa, xc, ya, yc, za, zc, G, k0, k1, k2, hat, hG, _⟩ := s1.kidAt hql
  have hwq : Wf d 1 3 (kidN n qx) := by rw [kid_get hql]; exact hws _ (List.getElem_mem hql)
  have hom := outermost_any w1 last hat hwq
  have tn0 := bn1.cell0
  have tn1 := bn1.cell1
  have tn2 := bn1.cell2
  go_wp2_with fail
  refine hom.mono ?_
  rintro e W1 ⟨pr, ka, kn, kc, ca, cn, cc, rfl, hout, hkr, hcr, hb2⟩
  have s2 := s1.more hb2
  have bn2 := bn1.below hb2 bn1.lt
  have bz2 := bz1.below hb2 bz1.lt
  replace hkr := hkr.below hb2
  replace hcr := hcr.below hb2
  clear bn1 bz1 tn0 tn1 tn2 hom hat hG k0 k1 k2 s1
  obtain ⟨us1, us2, us3, F3, p⟩ := s2.at'.own3
  obtain ⟨g1, c1', e1, _, hg1⟩ := p.r1.some (by omega)
  cases e1
  obtain ⟨g2, c2', e2, _, hg2⟩ := p.r2.some (by omega)
  cases e2
  have hl1 : i < us1.length := by rw [p.r1.len]; omega
  have hl2 : i < us2.length := by rw [p.r2.len]; omega
  have hN := nodup_cnt.1 s2.at'.nodup
  have n12 : g1 ≠ g2 := fun e => by
    have h1 := hN g1
    rw [p.fe] at h1
    simp only [List.count_append] at h1
    have h2 := (blk_cnt (.slice (Option.some ⟨g1, 0, none⟩) n.keys.length c1) g1).2.2 rfl
    have h3 := (blk_cnt (.slice (Option.some ⟨g2, 0, none⟩) n.chains.length c2) g1).2.2 (by rw [e]; rfl)
    omega
  have l1 : g1 < W1.heap.size := p.r1.lt rfl
  have l2 : g2 < W1.heap.size := p.r2.lt rfl
  have hnb : ∀ g, w.heap.size ≤ g → g < w.heap.size + 2 → g ≠ g1 ∧ g ≠ g2 := fun g h1 h2 => ⟨fun e => by
    rcases s2.fr g1 (by rw [p.fe]; simp [blkOf, Value.ownBlock]) with h3 | h3
    · have := s2.lt g1 h3; omega
    · omega, fun e => by
    rcases s2.fr g2 (by rw [p.fe]; simp [blkOf, Value.ownBlock]) with h3 | h3
    · have := s2.lt g2 h3; omega
    · omega⟩
  have hTr : ∀ (l : List Value) (W' : World), Chn W1 (TwoR g1 g2 (.slice (Option.some ⟨g1, 0, none⟩) n.keys.length c1) (.slice (Option.some ⟨g2, 0, none⟩) n.chains.length c2) n.keys.length n.chains.length (us1.set i (.slice ka kn kc)) (us2.set i (.slice ca cn cc))) l W' → Trd (fun k => ∃ p, p < l.length ∧ fpT g1 g2 p k) W1 W' := fun l W' h => Chn.trd twoR_trd h
  have hRN : ∀ (l : List Value) (W' : World), Chn W1 (TwoR g1 g2 (.slice (Option.some ⟨g1, 0, none⟩) n.keys.length c1) (.slice (Option.some ⟨g2, 0, none⟩) n.chains.length c2) n.keys.length n.chains.length (us1.set i (.slice ka kn kc)) (us2.set i (.slice ca cn cc))) l.reverse W' → TriV W' w.heap.size 28 (.slice (Option.some ⟨g1, 0, none⟩) n.keys.length c1) (.slice (Option.some ⟨g2, 0, none⟩) n.chains.length c2) (.slice (Option.some ⟨g3, 0, none⟩) n.kids.length c3) := fun l W' h => ((hTr _ _ h).block _ bn2.lt (fpT_not (hnb _ (by omega) (by omega)).1 (hnb _ (by omega) (by omega)).2 _)).trans bn2
  go_upto_region 3 with (fail)
  refine wp_region_lnl (K := K0 W1) (by kernel_rfl) (by kernel_rfl) [9, 11] (by kernel_rfl) [lEq (.pointer (some ⟨w.heap.size, 0 + 0, none⟩)), lEq (.slice (some ⟨g1, 0, none⟩) n.keys.length c1), lEq (.int .i64 (i : Int)), lEq (.pointer (some ⟨w.heap.size, 0 + 1, none⟩)), lEq (.slice (some ⟨g2, 0, none⟩) n.chains.length c2), lEq (.int .i64 (i : Int)), lEq (.slice ka kn kc), lEq (.slice ca cn cc), lEq (.pointer (some ⟨g1, 0 + i * 1, none⟩)), lAny, lEq (.pointer (some ⟨g2, 0 + i * 1, none⟩)), lAny] (fun l W => Chn W1 (TwoR g1 g2 (.slice (Option.some ⟨g1, 0, none⟩) n.keys.length c1) (.slice (Option.some ⟨g2, 0, none⟩) n.chains.length c2) n.keys.length n.chains.length (us1.set i (.slice ka kn kc)) (us2.set i (.slice ca cn cc))) l.reverse W) (fun l A B h hb => Chn.more _ _ _ h hb) (show Below W1.heap.size W1 W1 from Below.refl _ _)
    ⟨?o0, ?o1, ?o2, ?o3, ?o4, ?o5, ?o6, ?o7, ?o8, ?o9, ?o10, ?o11, trivial⟩ ?fin
  case o0 =>
    refine LnOp.side rfl (by kernel_rfl) (fun A va w' k' hF hT hk hJ hb hu hp hd => ?_)
    have e1 : A.eval (.tmp 2) = .pointer (some ⟨w.heap.size, 0, none⟩) := hF 2 rfl
    exact wp_fieldN ndS rfl (e1) (by omega) ⟨_, rfl, rfl, Below.refl _ _⟩
  case o1 =>
    refine LnOp.side rfl (by kernel_rfl) (fun A va w' k' hF hT hk hJ hb hu hp hd => ?_)
    have e1 : A.eval (.tmp 25) = .pointer (some ⟨w.heap.size, 0 + 0, none⟩) := (hT 25 0 (by simp) rfl).trans (hd ⟨0, .data⟩ (by simp) rfl rfl)
    exact wp_ld_slice (e := 32) rfl (e1) (by kernel_rfl) ((hRN _ _ hJ).cell0) ⟨_, rfl, rfl, Below.refl _ _⟩
  case o2 =>
    refine LnOp.side rfl (by kernel_rfl) (fun A va w' k' hF hT hk hJ hb hu hp hd => ?_)
    have e1 : A.eval (.tmp 1) = .int .i64 (i : Int) := hF 1 rfl
    exact BigFrame.wp_move _ rfl ⟨_, rfl, e1, Below.refl _ _⟩
  case o3 =>
    refine LnOp.side rfl (by kernel_rfl) (fun A va w' k' hF hT hk hJ hb hu hp hd => ?_)
    have e1 : A.eval (.tmp 2) = .pointer (some ⟨w.heap.size, 0, none⟩) := hF 2 rfl
    exact wp_fieldN ndS rfl (e1) (by omega) ⟨_, rfl, rfl, Below.refl _ _⟩
  case o4 =>
    refine LnOp.side rfl (by kernel_rfl) (fun A va w' k' hF hT hk hJ hb hu hp hd => ?_)
    have e1 : A.eval (.tmp 28) = .pointer (some ⟨w.heap.size, 0 + 1, none⟩) := (hT 28 3 (by simp) rfl).trans (hd ⟨3, .data⟩ (by simp) rfl rfl)
    exact wp_ld_slice (e := 37) rfl (e1) (by kernel_rfl) ((hRN _ _ hJ).cell1) ⟨_, rfl, rfl, Below.refl _ _⟩
  case o5 =>
    refine LnOp.side rfl (by kernel_rfl) (fun A va w' k' hF hT hk hJ hb hu hp hd => ?_)
    have e1 : A.eval (.tmp 1) = .int .i64 (i : Int) := hF 1 rfl
    exact BigFrame.wp_move _ rfl ⟨_, rfl, e1, Below.refl _ _⟩
  case o6 =>
    refine LnOp.side rfl (by kernel_rfl) (fun A va w' k' hF hT hk hJ hb hu hp hd => ?_)
    have e1 : A.eval (.tmp 7) = .slice ka kn kc := hF 7 rfl
    exact BigFrame.wp_move _ rfl ⟨_, rfl, e1, Below.refl _ _⟩
  case o7 =>
    refine LnOp.side rfl (by kernel_rfl) (fun A va w' k' hF hT hk hJ hb hu hp hd => ?_)
    have e1 : A.eval (.tmp 8) = .slice ca cn cc := hF 8 rfl
    exact BigFrame.wp_move _ rfl ⟨_, rfl, e1, Below.refl _ _⟩
  case o8 =>
    refine LnOp.side rfl (by kernel_rfl) (fun A va w' k' hF hT hk hJ hb hu hp hd => ?_)
    have e1 : A.eval (.tmp 26) = .slice (some ⟨g1, 0, none⟩) n.keys.length c1 := (hT 26 1 (by simp) rfl).trans (hd ⟨1, .data⟩ (by simp) rfl rfl)
    have e2 : A.eval (.tmp 27) = .int .i64 (i : Int) := (hT 27 2 (by simp) rfl).trans (hd ⟨2, .data⟩ (by simp) rfl rfl)
    exact wp_ixN (e := 32) rfl (by kernel_rfl) (by kernel_rfl) (e1) (e2) rfl (by omega) ⟨_, rfl, rfl, Below.refl _ _⟩
  case o9 =>
    refine LnOp.line 0 rfl rfl (fun A va w' hF hT hJ hu hd => ?_)
    have e1 : A.eval (.tmp 33) = .pointer (some ⟨g1, 0 + i * 1, none⟩) := (hT 33 8 (by simp) rfl).trans (hd ⟨8, .data⟩ (by simp) rfl rfl)
    have e2 : A.eval (.tmp 31) = .slice ka kn kc := (hT 31 6 (by simp) rfl).trans (hd ⟨6, .data⟩ (by simp) rfl rfl)
    have hB : Below W1.heap.size W1 w' := hJ
    rw [Nat.zero_add, Nat.mul_one] at e1
    refine wp_putQ1 rfl (by kernel_rfl) e1 e2 (p.r1.below hB) rfl hl1 (fun w2 hg hr => ?_)
    exact ⟨_, rfl, ⟨w', w2, hJ, ⟨hg, hr⟩, Below.refl _ _⟩, Trd.ofGrown hg fun g hk => by injection hk with hk; omega⟩
  case o10 =>
    refine LnOp.side rfl (by kernel_rfl) (fun A va w' k' hF hT hk hJ hb hu hp hd => ?_)
    have e1 : A.eval (.tmp 29) = .slice (some ⟨g2, 0, none⟩) n.chains.length c2 := (hT 29 4 (by simp) rfl).trans (hd ⟨4, .data⟩ (by simp) rfl rfl)
    have e2 : A.eval (.tmp 30) = .int .i64 (i : Int) := (hT 30 5 (by simp) rfl).trans (hd ⟨5, .data⟩ (by simp) rfl rfl)
    exact wp_ixN (e := 37) rfl (by kernel_rfl) (by kernel_rfl) (e1) (e2) rfl (by omega) ⟨_, rfl, rfl, Below.refl _ _⟩
  case o11 =>
    refine LnOp.line 1 rfl rfl (fun A va w' hF hT hJ hu hd => ?_)
    have e1 : A.eval (.tmp 34) = .pointer (some ⟨g2, 0 + i * 1, none⟩) := (hT 34 10 (by simp) rfl).trans (hd ⟨10, .data⟩ (by simp) rfl rfl)
    have e2 : A.eval (.tmp 32) = .slice ca cn cc := (hT 32 7 (by simp) rfl).trans (hd ⟨7, .data⟩ (by simp) rfl rfl)
    have hJ' : Chn W1 (TwoR g1 g2 (.slice (Option.some ⟨g1, 0, none⟩) n.keys.length c1) (.slice (Option.some ⟨g2, 0, none⟩) n.chains.length c2) n.keys.length n.chains.length (us1.set i (.slice ka kn kc)) (us2.set i (.slice ca cn cc))) [va 9] w' := hJ
    have hr2 := p.r2.trd (hTr _ _ hJ') (fun g hg => by injection hg with hg; rintro ⟨p, hp, hf⟩; rcases p with _ | p; have hf' : g = g1 := hf; exact n12 (hf'.symm.trans hg.symm); simp only [List.length_cons, List.length_nil] at hp; omega)
    rw [Nat.zero_add, Nat.mul_one] at e1
    refine wp_putQ1 rfl (by kernel_rfl) e1 e2 hr2 rfl hl2 (fun w2 hg hr => ?_)
    exact ⟨_, rfl, ⟨w', w2, hJ, ⟨hg, hr⟩, Below.refl _ _⟩, Trd.ofGrown hg fun g hk => by injection hk with hk; omega⟩
  case fin =>
    intro vs1 W9 hJ hGG
    clear hGG
    have hJc : Chn W1 (TwoR g1 g2 (.slice (Option.some ⟨g1, 0, none⟩) n.keys.length c1) (.slice (Option.some ⟨g2, 0, none⟩) n.chains.length c2) n.keys.length n.chains.length (us1.set i (.slice ka kn kc)) (us2.set i (.slice ca cn cc))) [vs1 11, vs1 9] W9 := hJ
    have hT9 := hTr _ _ hJc
    obtain ⟨Wb1, Wb2, hJ1, ⟨hgb, hrb⟩, hb9⟩ := hJc
    obtain ⟨Wa1, Wa2, hJ0, ⟨hga, hra⟩, hba⟩ := hJ1
    have hJ0' : Below W1.heap.size W1 Wa1 := hJ0
    have s3 := s2.more hJ0'
    have hfl : Flat Elt.bytes D Wa1 (n.keys.set i pr.key) (us1.set i (.slice ka kn kc)) := (p.l1.set rfl ⟨_, rfl, hkr⟩ hlt).keep fun g hd => hJ0'.block g (s2.at'.data g hd)
    have hfl2 : Flat (Elt.list Elt.ver) D W1 (n.chains.set i pr.chain) (us2.set i (.slice ca cn cc)) := p.l2.set rfl ⟨_, rfl, hcr⟩ hlc
    obtain ⟨F4, s4⟩ := s3.keys (ks := n.keys.set i pr.key) (us := us1.set i (.slice ka kn kc)) (V1' := .slice (Option.some ⟨g1, 0, none⟩) n.keys.length c1) ⟨by rw [List.length_set]; exact hra, hga, .inl rfl⟩ hfl
    have s5 := s4.more hba
    obtain ⟨F6, s6⟩ := s5.chains (cs := n.chains.set i pr.chain) (us := us2.set i (.slice ca cn cc)) (V2' := .slice (Option.some ⟨g2, 0, none⟩) n.chains.length c2) ⟨by rw [List.length_set]; exact hrb, hgb, .inl rfl⟩ (hfl2.keep fun g hd => by
      have h1 := s5.trd.block g (h.data g hd) fun hm => h.free g hm hd
      have h2 := s2.trd.block g (h.data g hd) fun hm => h.free g hm hd
      exact h1.trans h2.symm)
    have s9 : NdOf D w (w.heap.size + 2) F W9 (.agg #[.slice (Option.some ⟨g1, 0, none⟩) n.keys.length c1, .slice (Option.some ⟨g2, 0, none⟩) n.chains.length c2, .slice (Option.some ⟨g3, 0, none⟩) n.kids.length c3]) (setKey n i pr) F6 := s6.more hb9
    have bn9 := hRN _ _ hJ
    have bz9 : TriV W9 (w.heap.size + 1) 28 _ _ _ := (hT9.block _ bz2.lt (fpT_not (hnb _ (by omega) (by omega)).1 (hnb _ (by omega) (by omega)).2 _)).trans bz2
    have hkr9 : RdS D W9 (.slice ka kn kc) pr.key := hkr.keep fun g hd => by
      have h1 := s9.trd.block g (h.data g hd) fun hm => h.free g hm hd
      have h2 := s2.trd.block g (h.data g hd) fun hm => h.free g hm hd
      exact h1.trans h2.symm
    have e1 : (setKey n i pr).keys.length = n.keys.length := by show (n.keys.set i pr.key).length = _; rw [List.length_set]
    have e2 : (setKey n i pr).chains.length = n.chains.length := by show (n.chains.set i pr.chain).length = _; rw [List.length_set]
    have hpq : Pn d (kidN n qx) := by
      obtain ⟨d2, e3, _, _, h4, _, _⟩ := hp.kid hql
      obtain rfl : d = d2 := by omega
      rw [kid_get hql]; exact h4
    have hred := ihR W9 D _ _ _ qx ka kn kc pr.key D s9.at' (by rw [e1, e2]; exact hsh1.out) (by rw [e1]; exact hkl.out) (by rw [e1]; omega) (by rw [e1]; exact hkk) hws hql hpq (out_find hpq.srt hout) hkr9
    have hfin : ∀ m, DelN d (kidN n qx) pr.key m → DelN (d + 1) n k (settledF (setKid (setKey n i pr) qx m) qx) := fun m hm => del_is hp his.out hi.out hk0 hqx.out hql (by rw [← kid_get hql]; exact hout) (by rw [← kid_get hql]; exact hm)
    clear e1 e2 hJ hTr hRN hT9 hJ0 hJ0' hga hra hba hgb hrb hb9 s3 s4 s5 s6 s2 p hfl hfl2 bn2 bz2 hkr hcr
    have tn0 := bn9.cell0
    have tn1 := bn9.cell1
    have tn2 := bn9.cell2
    simp only [putAll]
    go_simp
    go_wp2_with fail
    refine hred.mono ?_
    rintro e w4 hto
    obtain ⟨v2, n2, F2, rfl, ⟨m, hm, hq⟩, sA, t2⟩ := s9.step hto
    obtain ⟨a1', c1', a2', c2', a3', c3', _, _, _, _, rfl, p2⟩ := sA.at'.opn
    have bzA := s9.tri t2 (b := w.heap.size + 1) (by omega) (by omega) bz9
    clear bn9 bz9 hto t2 tn0 tn1 tn2 s9 p2 hred
    replace hq := Lib.hid hq
    go_wp2_with (first | (refine wpList_storeT rfl rfl rfl rfl rfl rfl rfl rfl bzA ?_; intro w5 hg5 bz5) | fail)
    have s5 := sA.box hg5 (by omega) (by omega)
    exact bodyPost_ret (v := .agg #[.slice a1' n2.keys.length c1', .slice a2' n2.chains.length c2', .slice a3' n2.kids.length c3']) (by simp [results, Try.results36, go_sem, loadVar, isAgg, run_underlying hu, run_sizeOf' ndS.hs, loadCellsFrom, Addr.add, bz5.cell0, bz5.cell1, bz5.cell2]) rfl (s5.ret (by rw [hq.out]; exact hfin m hm))
end Go.Proofs.Yticngbgjfdcnhaa
namespace Go.Proofs.Yticngbgjfdcnhaa
open Go.RowKit
set_option maxRecDepth 100000 in
set_option maxHeartbeats 8000000 in
theorem without_step (d : Nat) (ihR : ∀ d', d = d' + 1 → ReducedAt d') : WithoutAt d := by
  intro w D v n F ka kn kc k S2 h hp hf hk
  obtain ⟨a1, c1, a2, c2, a3, c3, us1, us2, us3, F3, rfl, p⟩ := h.opn
  obtain ⟨W, hW, q, bn, bz, hsz⟩ := triBoxes2 w 28 (.slice a1 n.keys.length c1) (.slice a2 n.chains.length c2) (.slice a3 n.kids.length c3) (.slice none 0 0) (.slice none 0 0) (.slice none 0 0)
  have s0 := NdOf.start (lo := w.heap.size + 2) h q (by omega) (by omega)
  have hkk := hp.wf.keys.2
  obtain ⟨hsh1, hsh2⟩ := hp.wf.shape
  have hpl := place_any W s0.at'.rdN hp.ris (by omega) (hk.below q)
  obtain ⟨i, hi⟩ : ∃ i, i = plcF n.keys k := ⟨_, rfl⟩
  obtain ⟨is, his⟩ : ∃ is, is = isF n.keys k := ⟨_, rfl⟩
  rw [← hi, ← his] at hpl
  have tn0 := bn.cell0
  have tn1 := bn.cell1
  have tn2 := bn.cell2
  have hile : i ≤ n.keys.length := by rw [hi]; exact plc_le _ _
  obtain ⟨fs, hu, _⟩ := ndS.hu
  clear p
  have hle := fun W' => leaf_any W' (x := .slice a1 n.keys.length c1) (y := .slice a2 n.chains.length c2) (a := a3) (n := n.kids.length) (c := c3)
  have hs1a := Nat.le_of_eq hsh1
  have hs1b := Nat.le_of_eq hsh1.symm
  rcases Nat.eq_zero_or_pos n.kids.length with hk0 | hk0
  · have hdk : decide (n.kids.length = 0) = true := decide_eq_true hk0
    rw [hdk] at hle
    have ht : is = true := by
      cases is with
      | true => rfl
      | false => exact absurd (find_leaf hp his.symm (List.length_eq_zero_iff.1 hk0)) hf
    obtain ⟨hlt, _⟩ := is_get (his.symm.trans ht)
    rw [← hi] at hlt
    have hdel := del_leaf hp (his.symm.trans ht) (List.length_eq_zero_iff.1 hk0)
    rw [← hi] at hdel
    clear ht
    replace hi := Lib.hid hi
    replace his := Lib.hid his
    replace hsh1 := Lib.hid hsh1
    replace hsh2 := Lib.hid hsh2
    replace hdk := Lib.hid hdk
    replace hk0 := Lib.hid hk0
    replace hf := Lib.hid hf
    go_enter Try.func18, Try.ntmps18
    go_upto_region 1 with (fail)
    rw [← hW]
    clear hW hsz
    go_wp2_with fail
    refine hpl.mono ?_
    rintro e w1 ⟨rfl, hb1⟩
    have s1 := s0.more hb1
    have bn1 := bn.below hb1 bn.lt
    have bz1 := bz.below hb1 bz.lt
    clear bn bz tn0 tn1 tn2 s0 hpl
    have tn0 := bn1.cell0
    have tn1 := bn1.cell1
    have tn2 := bn1.cell2
    go_wp2_with fail
    refine (hle w1).mono ?_
    rintro e w2 ⟨rfl, hb2⟩
    have s2 := s1.more hb2
    have bn2 := bn1.below hb2 bn1.lt
    have bz2 := bz1.below hb2 bz1.lt
    clear bn1 bz1 tn0 tn1 tn2 s1 hle
    have tn0 := bn2.cell0
    obtain ⟨us1, us2, us3, F3, p⟩ := s2.at'.own3
    have hne : ∀ g, Value.ownBlock (.slice a1 n.keys.length c1) = Option.some g → g < w.heap.size := fun g hg => by
      have : g ∈ F := by rw [p.fe]; simp [blkOf, hg]
      exact s2.lt g this
    have hdk := delete_k w2 (i := i) (j := (i : Int) + 1) p.r1 hlt rfl (by omega)
    go_wp2_with fail
    refine hdk.mono ?_
    rintro e w4 ⟨V1', rfl, hR⟩
    obtain ⟨A1, C1, rfl, _, _⟩ := hR.row.shape
    have eln : (n.keys.take i ++ n.keys.drop (i + 1)).length = n.keys.length - 1 := by
      simp only [List.length_append, List.length_take, List.length_drop]; omega
    obtain ⟨F4, s4⟩ := s2.keys (ks := n.keys.take i ++ n.keys.drop (i + 1)) (by rw [eln]; exact hR) ((Flat.take p.l1 i).append (Flat.drop p.l1 (i + 1)))
    have hRt := hR.trd
    have bn4 : TriV w4 w.heap.size 28 _ _ _ := (hRt.block _ bn2.lt (fun hg => by have := hne _ hg; omega)).trans bn2
    have bz4 : TriV w4 (w.heap.size + 1) 28 _ _ _ := (hRt.block _ bz2.lt (fun hg => by have := hne _ hg; omega)).trans bz2
    clear tn0 bn2 bz2 s2 p hR hRt hne hdk
    replace eln := Lib.hid eln
    go_upto_region 4 with (first
      | (refine wpList_fld0 rfl rfl rfl (by kernel_rfl) rfl rfl bn4 ?_; intro w5 hg5 bn5)
      | fail)
    have s5 := s4.box hg5 (Nat.le_refl _) (by omega)
    have bz5 := bz4.other hg5 (by omega)
    clear bn4 bz4 s4 hg5
    have tn1 := bn5.cell1
    obtain ⟨us1, us2, us3, F3, p⟩ := s5.at'.own3
    have hne : ∀ g, Value.ownBlock (.slice a2 n.chains.length c2) = Option.some g → g ∈ F ∨ w.heap.size + 2 ≤ g := fun g hg => s5.fr g (by rw [p.fe]; simp [blkOf, hg])
    have hdc := delete_c w5 (i := i) (j := (i : Int) + 1) p.r2 (by show i < n.chains.length; omega) rfl (by show n.chains.length ≤ 1000000; omega)
    go_wp2_with fail
    refine hdc.mono ?_
    rintro e w7 ⟨V2', rfl, hR⟩
    obtain ⟨A2, C2, rfl, _, _⟩ := hR.row.shape
    have eln2 : (n.chains.take i ++ n.chains.drop (i + 1)).length = n.chains.length - 1 := by
      simp only [List.length_append, List.length_take, List.length_drop]; omega
    obtain ⟨F7, s7⟩ := s5.chains (cs := n.chains.take i ++ n.chains.drop (i + 1)) (by rw [eln2]; exact hR) ((Flat.take p.l2 i).append (Flat.drop p.l2 (i + 1)))
    have hRt := hR.trd
    have bn7 : TriV w7 w.heap.size 28 _ _ _ := (hRt.block _ bn5.lt (fun hg => by rcases hne _ hg with h1 | h1; have := s5.lt _ h1; omega; omega)).trans bn5
    have bz7 : TriV w7 (w.heap.size + 1) 28 _ _ _ := (hRt.block _ bz5.lt (fun hg => by rcases hne _ hg with h1 | h1; have := s5.lt _ h1; omega; omega)).trans bz5
    clear tn1 bn5 bz5 s5 p hR hRt hne hdc hb2 hb1
    replace eln2 := Lib.hid eln2
    go_upto_region 5 with (first
      | (refine wpList_fld1 rfl rfl rfl (by kernel_rfl) rfl rfl bn7 ?_; intro w8 hg8 bn8)
      | fail)
    have s8 := s7.box hg8 (Nat.le_refl _) (by omega)
    have bz8 := bz7.other hg8 (by omega)
    have tn0 := bn8.cell0
    have tn1 := bn8.cell1
    have tn2 := bn8.cell2
    clear bn7 bz7 s7 hg8
    go_wp2_with (first | (refine wpList_storeT rfl rfl rfl rfl rfl rfl rfl rfl bz8 ?_; intro w9 hg9 bz9) | fail)
    have s9 := s8.box hg9 (by omega) (by omega)
    exact bodyPost_ret (v := .agg #[_, _, _]) (by simp [results, Try.results18, go_sem, loadVar, isAgg, run_underlying hu, run_sizeOf' ndS.hs, loadCellsFrom, Addr.add, bz9.cell0, bz9.cell1, bz9.cell2]) rfl (s9.ret hdel)
  · have hdk : decide (n.kids.length = 0) = false := decide_eq_false (by omega)
    rw [hdk] at hle
    obtain ⟨d', rfl, hd', hkl, _, _, hws⟩ := hp.kid hk0
    have ilt : i < n.kids.length := by omega
    obtain ⟨d2, e', e5, e6, hpk, e7, e8⟩ := hp.kid ilt
    obtain rfl : d' = d2 := by omega
    clear e5 e6 e7 e8 e'
    rw [← kid_get ilt] at hpk
    have hn1 : 1 ≤ n.keys.length := by rcases hp.ne with h1 | h1; omega; exact h1
    have hredAt := ihR _ rfl
    have hkla := Nat.le_of_eq hkl
    have hklb := Nat.le_of_eq hkl.symm
    cases is with
    | true =>
      have hrep := fun (w' : World) (hq : Below W.heap.size W w') => replaced_step d' hredAt w' D _ n F i k ((s0.more hq).at') hp his.symm hi hk0
      replace hi := Lib.hid hi
      replace his := Lib.hid his
      replace hsh1 := Lib.hid hsh1
      replace hsh2 := Lib.hid hsh2
      replace hkl := Lib.hid hkl
      replace hdk := Lib.hid hdk
      replace hf := Lib.hid hf
      go_enter Try.func18, Try.ntmps18
      go_upto_region 1 with (fail)
      rw [← hW]
      clear hW hsz
      go_wp2_with fail
      refine hpl.mono ?_
      rintro e w1 ⟨rfl, hb1⟩
      have bn1 := bn.below hb1 bn.lt
      have bz1 := bz.below hb1 bz.lt
      clear bn bz tn0 tn1 tn2 hpl
      have tn0 := bn1.cell0
      have tn1 := bn1.cell1
      have tn2 := bn1.cell2
      go_wp2_with fail
      refine (hle w1).mono ?_
      rintro e w2 ⟨rfl, hb2⟩
      have hb12 := hb1.trans (hb2.mono hb1.size)
      have s2 := s0.more hb12
      have bn2 := bn1.below hb2 bn1.lt
      have bz2 := bz1.below hb2 bz1.lt
      have hre := hrep w2 hb12
      clear bn1 bz1 tn0 tn1 tn2 s0 hle hrep
      have tn0 := bn2.cell0
      have tn1 := bn2.cell1
      have tn2 := bn2.cell2
      go_wp2_with fail
      refine hre.mono ?_
      rintro e w4 hto
      obtain ⟨v2, n2, F2, rfl, hq, sA, t2⟩ := s2.step hto
      obtain ⟨a1', c1', a2', c2', a3', c3', _, _, _, _, rfl, p2⟩ := sA.at'.opn
      have bzA := s2.tri t2 (b := w.heap.size + 1) (by omega) (by omega) bz2
      clear bn2 bz2 hto t2 tn0 tn1 tn2 s2 p2 hre
      go_wp2_with (first | (refine wpList_storeT rfl rfl rfl rfl rfl rfl rfl rfl bzA ?_; intro w5 hg5 bz5) | fail)
      have s5 := sA.box hg5 (by omega) (by omega)
      exact bodyPost_ret (v := .agg #[.slice a1' n2.keys.length c1', .slice a2' n2.chains.length c2', .slice a3' n2.kids.length c3']) (by simp [results, Try.results18, go_sem, loadVar, isAgg, run_underlying hu, run_sizeOf' ndS.hs, loadCellsFrom, Addr.add, bz5.cell0, bz5.cell1, bz5.cell2]) rfl (s5.ret hq)
    | false =>
      have hfk : findP (pairsN (kidN n i)) k ≠ none := by
        subst hi
        rw [kid_get ilt, ← find_in hp his.symm ilt]; exact hf
      have hred := fun (w' : World) (hq : Below W.heap.size W w') => hredAt w' D _ n F i ka kn kc k S2 ((s0.more hq).at') hsh1 hkl hn1 hkk hws ilt hpk hfk ((hk.below q).below hq)
      have hfin : ∀ m, DelN d' (kidN n i) k m → DelN (d' + 1) n k (settledF (setKid n i m) i) := by
        intro m hm
        subst hi
        exact del_in hp his.symm ilt (by rw [← kid_get ilt]; exact hm)
      replace hi := Lib.hid hi
      replace his := Lib.hid his
      replace hsh1 := Lib.hid hsh1
      replace hsh2 := Lib.hid hsh2
      replace hkl := Lib.hid hkl
      replace hdk := Lib.hid hdk
      replace hf := Lib.hid hf
      replace hfk := Lib.hid hfk
      go_enter Try.func18, Try.ntmps18
      go_upto_region 1 with (fail)
      rw [← hW]
      clear hW hsz
      go_wp2_with fail
      refine hpl.mono ?_
      rintro e w1 ⟨rfl, hb1⟩
      have bn1 := bn.below hb1 bn.lt
      have bz1 := bz.below hb1 bz.lt
      clear bn bz tn0 tn1 tn2 hpl
      have tn0 := bn1.cell0
      have tn1 := bn1.cell1
      have tn2 := bn1.cell2
      go_wp2_with fail
      refine (hle w1).mono ?_
      rintro e w2 ⟨rfl, hb2⟩
      have hb12 := hb1.trans (hb2.mono hb1.size)
      have s2 := s0.more hb12
      have bn2 := bn1.below hb2 bn1.lt
      have bz2 := bz1.below hb2 bz1.lt
      have hre := hred w2 hb12
      clear bn1 bz1 tn0 tn1 tn2 s0 hle hred
      have tn0 := bn2.cell0
      have tn1 := bn2.cell1
      have tn2 := bn2.cell2
      go_wp2_with fail
      refine hre.mono ?_
      rintro e w4 hto
      obtain ⟨v2, n2, F2, rfl, ⟨m, hm, hq⟩, sA, t2⟩ := s2.step hto
      obtain ⟨a1', c1', a2', c2', a3', c3', _, _, _, _, rfl, p2⟩ := sA.at'.opn
      have bzA := s2.tri t2 (b := w.heap.size + 1) (by omega) (by omega) bz2
      clear bn2 bz2 hto t2 tn0 tn1 tn2 s2 p2 hre
      replace hq := Lib.hid hq
      go_wp2_with (first | (refine wpList_storeT rfl rfl rfl rfl rfl rfl rfl rfl bzA ?_; intro w5 hg5 bz5) | fail)
      have s5 := sA.box hg5 (by omega) (by omega)
      exact bodyPost_ret (v := .agg #[.slice a1' n2.keys.length c1', .slice a2' n2.chains.length c2', .slice a3' n2.kids.length c3']) (by simp [results, Try.results18, go_sem, loadVar, isAgg, run_underlying hu, run_sizeOf' ndS.hs, loadCellsFrom, Addr.add, bz5.cell0, bz5.cell1, bz5.cell2]) rfl (s5.ret (by rw [hq.out]; exact hfin m hm))
theorem without_any : ∀ d, WithoutAt d
  | 0 => without_step 0 fun _ h => by cases h
  | d + 1 => without_step (d + 1) fun d' h => by cases h; exact reduced_step d (without_any d)
end Go.Proofs.Yticngbgjfdcnhaa
namespace Go.Proofs.Yticngbgjfdcnhaa
open Go.RowKit
theorem NdOf.done {D : Nat → Prop} {w W0 W1 W W' : World} {lo b : Nat} {F F' : List Nat} {v : Value} {n : Nd} (h : NdOf D W1 lo F W v n F') (q0 : Below w.heap.size w W0) (q1 : Below W0.heap.size W0 W1) (hD : ∀ k, D k → W0.heap.size ≤ k) (hF : ∀ k ∈ F, W0.heap.size ≤ k) (hg : W.grownBy W' (some b)) (h1 : w.heap.size ≤ b) (h2 : b < W0.heap.size) :
    RdN (fun k => w.heap.size ≤ k ∧ k < W'.heap.size) W' v n ∧ Below w.heap.size w W' := by
  have hS : ∀ k, (D k ∨ k ∈ F') → W0.heap.size ≤ k := fun k hk => by
    rcases hk with hk | hk
    · exact hD k hk
    · rcases h.fr k hk with h3 | h3
      · exact hF k h3
      · have := h.lo1; have := q1.size; omega
  have hr := h.at'.rdN.fit
  have qa : Below w.heap.size w W := (q0.trans (q1.mono q0.size)).trans (h.trd.below (Nat.le_trans q0.size q1.size) fun k hk hf => by have := hF k hf; have := q0.size; omega)
  refine ⟨(hr.keep fun k hk => hg.block k hk.2 fun e => ?_).weak fun k hk => ⟨Nat.le_trans q0.size (hS k hk.1), Nat.lt_of_lt_of_le hk.2 hg.size⟩, qa.grown hg qa.size fun k e => by injection e with e; omega⟩
  injection e with e
  have := hS k hk.1
  omega
set_option maxRecDepth 100000 in
set_option maxHeartbeats 4000000 in
theorem tDelete_any (w : World) {S S2 : Nat → Prop} {v : Value} {n : Nd} {a : Option Addr} {m c : Nat} {k : List UInt8} (hr : RdN S w v n) (hf : fitN n) (hk : RdS S2 w (.slice a m c) k) :
    Calls Try.prog 5 #[v, .slice a m c] w (NodeEnd w (DelIs n k)) := by
  have hr0 := hr
  obtain ⟨a1, c1, a2, c2, a3, c3, rfl, _, _, _⟩ := hr
  obtain ⟨W, hW, q, bn, bz, hsz⟩ := triBoxes2 w 28 (.slice a1 n.keys.length c1) (.slice a2 n.chains.length c2) (.slice a3 n.kids.length c3) (.slice none 0 0) (.slice none 0 0) (.slice none 0 0)
  have hcp := copied_all (wN n) n W (Nat.le_refl _) hf.1 hf.2 (hr0.below q)
  have tn0 := bn.cell0
  have tn1 := bn.cell1
  have tn2 := bn.cell2
  obtain ⟨fs, hu, _⟩ := ndS.hu
  have hwn : wN n ≤ 1000000 := by have := hf.1; omega
  clear hr0
  go_enter Try.func5, Try.ntmps5
  go_upto_region 1 with (fail)
  rw [← hW]
  clear hW
  go_wp2_with fail
  refine hcp.mono ?_
  rintro e W1 ⟨v', rfl, F, hat, hF, hb1⟩
  obtain ⟨x1, d1, x2, d2, x3, d3, _, _, _, _, rfl, _⟩ := hat.opn
  have bz1 := bz.below hb1 bz.lt
  clear tn0 tn1 tn2 hcp bn bz
  go_upto_region 2 with (first
    | (refine wpList_allocT rfl rfl ?_; intro W2 hb2 ht2)
    | (refine wpList_storeT rfl rfl rfl rfl rfl rfl rfl rfl ht2 ?_; intro W3 hg3 bk)
    | fail)
  have s0 := (NdOf.start (lo := W1.heap.size + 1) hat hb2 (by omega) (by have := ht2.lt; omega)).box hg3 (Nat.le_refl _) (by omega)
  have bz3 := (bz1.below hb2 bz1.lt).other hg3 (by have := hb1.size; omega)
  have qb : Below W1.heap.size W1 W3 := hb2.grown hg3 hb2.size fun k e => by injection e with e; omega
  have hk3 := ((hk.below q).below hb1).below qb
  clear ht2 hg3 hb2 bz1 qb
  have hch := tCheck_any W3 s0.at'.rdN hwn
  have tk0 := bk.cell0
  have tk1 := bk.cell1
  have tk2 := bk.cell2
  by_cases hok : okN n
  · obtain ⟨d, hpn⟩ := ok_pn hok
    rw [decide_eq_true hok] at hch
    go_wp2_with fail
    refine hch.mono ?_
    rintro e W4 ⟨rfl, hb4⟩
    have s4 := s0.more hb4
    have bk4 := bk.below hb4 bk.lt
    have bz4 := bz3.below hb4 bz3.lt
    clear tk0 tk1 tk2 hch bk bz3 s0
    have tk0 := bk4.cell0
    have tk1 := bk4.cell1
    have tk2 := bk4.cell2
    have hk4 := hk3.below hb4
    have hfd := find_any W4 s4.at'.rdN hpn hk4
    obtain ⟨fo, hfo⟩ : ∃ fo, fo = findP (pairsN n) k := ⟨_, rfl⟩
    rw [← hfo] at hfd
    go_wp2_with fail
    refine hfd.mono ?_
    rintro e W5 ⟨⟨ga, gc, rfl, _⟩, hb5⟩
    have s5 := s4.more hb5
    have bk5 := bk4.below hb5 bk4.lt
    have bz5 := bz4.below hb5 bz4.lt
    have hk5 := hk4.below hb5
    clear tk0 tk1 tk2 hfd bk4 bz4 s4 hk4
    have tk0 := bk5.cell0
    have tk1 := bk5.cell1
    have tk2 := bk5.cell2
    cases fo with
    | none =>
      have hq : DelIs n k n 61 := by unfold DelIs; rw [if_pos hok, ← hfo]; exact ⟨rfl, rfl⟩
      replace hfo := Lib.hid hfo
      go_wp2_with (first | (refine wpList_storeT rfl rfl rfl rfl rfl rfl rfl rfl bz5 ?_; intro W6 hg6 bz6) | fail)
      obtain ⟨hrd, hbl⟩ := s5.done q hb1 (fun g hd => hd.1) hF hg6 (by omega) (by omega)
      exact bodyPost_ret (v := .tuple #[.agg #[.slice x1 n.keys.length d1, .slice x2 n.chains.length d2, .slice x3 n.kids.length d3], .int .i64 61]) (by simp [results, Try.results5, go_sem, loadVar, isAgg, run_underlying hu, run_sizeOf' ndS.hs, loadCellsFrom, Addr.add, bz6.cell0, bz6.cell1, bz6.cell2]) rfl ⟨_, n, 61, rfl, hq, hrd, hbl⟩
    | some fc =>
      have hne : findP (pairsN n) k ≠ none := by rw [← hfo]; simp
      have hwo := without_any d W5 _ _ n F a m c k S2 s5.at' hpn hne hk5
      have hfin : ∀ n1, DelN d n k n1 → DelIs n k (rootF n1) 0 ∧ Wf d 0 4 n1 := fun n1 h1 => by
        have hs1 : Srt (pairsN n1) := by rw [h1.2]; exact del_srt hpn.srt
        have hw1 : Wf d 0 4 n1 := h1.1.mono (Nat.zero_le _) (by have := h1.1.keys; omega)
        obtain ⟨⟨d', hp'⟩, hpr⟩ := root_spec hw1 hs1
        refine ⟨?_, hw1⟩
        unfold DelIs
        rw [if_pos hok, ← hfo, if_pos (show (some fc).isSome = true from rfl)]
        exact ⟨rfl, pn_ok hp' (by rw [hpr, h1.2]; exact fun p hp => ((okP_iff _).1 hok.2).1 p (del_mem hp)), by rw [hpr, h1.2]⟩
      replace hfo := Lib.hid hfo
      replace hne := Lib.hid hne
      go_wp2_with fail
      refine hwo.mono ?_
      rintro e W6 hto
      obtain ⟨v6, n6, F6, rfl, hd6, s6, t6⟩ := s5.step hto
      obtain ⟨hdel, hwf⟩ := hfin n6 hd6
      have bz6 : TriV W6 (w.heap.size + 1) 28 _ _ _ := (t6.block _ bz5.lt (fun hm => by have := hF _ hm; omega)).trans bz5
      have hrt := rooted_any W6 s6.at' hwf
      clear hto t6 bk5 bz5 tk0 tk1 tk2 hwo s5 hfin
      go_wp2_with fail
      refine hrt.mono ?_
      rintro e W7 hto
      obtain ⟨v7, n7, F7, rfl, hq7, s7, t7⟩ := s6.step hto
      obtain ⟨y1, e1, y2, e2, y3, e3, _, _, _, _, rfl, _⟩ := s7.at'.opn
      have bz7 : TriV W7 (w.heap.size + 1) 28 _ _ _ := (t7.block _ bz6.lt (fun hm => by
        rcases s6.fr _ hm with h1 | h1
        · have := hF _ h1; omega
        · have := s6.lo1; have := hb1.size; omega)).trans bz6
      replace hq7 := Lib.hid hq7
      clear hto t7 bz6 hrt s6
      go_wp2_with (first | (refine wpList_storeT rfl rfl rfl rfl rfl rfl rfl rfl bz7 ?_; intro W8 hg8 bz8) | fail)
      obtain ⟨hrd, hbl⟩ := s7.done q hb1 (fun g hd => hd.1) hF hg8 (by omega) (by omega)
      exact bodyPost_ret (v := .tuple #[.agg #[.slice y1 n7.keys.length e1, .slice y2 n7.chains.length e2, .slice y3 n7.kids.length e3], .int .i64 0]) (by simp [results, Try.results5, go_sem, loadVar, isAgg, run_underlying hu, run_sizeOf' ndS.hs, loadCellsFrom, Addr.add, bz8.cell0, bz8.cell1, bz8.cell2]) rfl ⟨_, n7, 0, rfl, by rw [hq7.out]; exact hdel, hrd, hbl⟩
  · rw [decide_eq_false hok] at hch
    go_wp2_with fail
    refine hch.mono ?_
    rintro e W4 ⟨rfl, hb4⟩
    have s4 := s0.more hb4
    have bk4 := bk.below hb4 bk.lt
    have bz4 := bz3.below hb4 bz3.lt
    clear tk0 tk1 tk2 hch bk bz3 s0
    have tk0 := bk4.cell0
    have tk1 := bk4.cell1
    have tk2 := bk4.cell2
    go_wp2_with (first | (refine wpList_storeT rfl rfl rfl rfl rfl rfl rfl rfl bz4 ?_; intro W5 hg5 bz5) | fail)
    obtain ⟨hrd, hbl⟩ := s4.done q hb1 (fun g hd => hd.1) hF hg5 (by omega) (by omega)
    exact bodyPost_ret (v := .tuple #[.agg #[.slice x1 n.keys.length d1, .slice x2 n.chains.length d2, .slice x3 n.kids.length d3], .int .i64 1]) (by simp [results, Try.results5, go_sem, loadVar, isAgg, run_underlying hu, run_sizeOf' ndS.hs, loadCellsFrom, Addr.add, bz5.cell0, bz5.cell1, bz5.cell2]) rfl ⟨_, n, 1, rfl, by unfold DelIs; rw [if_neg hok]; exact ⟨rfl, rfl⟩, hrd, hbl⟩
end Go.Proofs.Yticngbgjfdcnhaa
namespace Go.Proofs.Yticngbgjfdcnhaa
open Go.RowKit
theorem bnd_small : ∀ (d : Nat) {n : Nd} {lo hi : Nat}, Wf d lo hi n → bndN n → ∀ p ∈ pairsN n, smallV p.chain
  | 0, _, _, _, h, _ => h.elim
  | d + 1, n, _, _, h, hb => by
    obtain ⟨_, h2, h3⟩ := (bndN_def n).1 hb
    have hs := h.shape
    obtain ⟨hc, _, _, hk⟩ := h
    refine (pairs_all hc hs.2).2 ⟨fun p hp => ?_, fun m hm => ?_⟩
    · obtain ⟨i, hi, rfl⟩ := List.mem_iff_getElem.1 hp
      have hi' : i < n.keys.length := by rw [kp_len hc] at hi; exact hi
      have e := kp_get hc hi'
      rw [List.getElem?_eq_getElem hi] at e
      rw [Option.some.inj e]
      exact h2 _ (List.getElem_mem _)
    · rcases hk with ⟨_, h0⟩ | ⟨_, _, h4⟩
      · rw [h0] at hm; cases hm
      · exact bnd_small d (h4 m hm) (h3 m hm)
set_option maxRecDepth 100000 in
set_option maxHeartbeats 4000000 in
theorem tFind_any (w : World) {S S2 : Nat → Prop} {v : Value} {n : Nd} {a : Option Addr} {m c : Nat} {k : List UInt8} (hr : RdN S w v n) (hf : fitN n) (hk : RdS S2 w (.slice a m c) k) :
    Calls Try.prog 11 #[v, .slice a m c] w (FindEnd w (findP (prN n) k)) := by
  have hr0 := hr
  obtain ⟨a1, c1, a2, c2, a3, c3, rfl, _, _, _⟩ := hr
  have q : Below w.heap.size w (w.alloc (.cells #[.slice a1 n.keys.length c1, .slice a2 n.chains.length c2, .slice a3 n.kids.length c3] 28)) := (Below.refl _ _).alloc (Nat.le_refl _) _
  have bn := TriV.new w 28 (.slice a1 n.keys.length c1) (.slice a2 n.chains.length c2) (.slice a3 n.kids.length c3)
  obtain ⟨W, hW⟩ : ∃ W, W = w.alloc (.cells #[.slice a1 n.keys.length c1, .slice a2 n.chains.length c2, .slice a3 n.kids.length c3] 28) := ⟨_, rfl⟩
  rw [← hW] at q bn
  have hwn : wN n ≤ 1000000 := by have := hf.1; omega
  have hch := tCheck_any W (hr0.below q) hwn
  have tn0 := bn.cell0
  have tn1 := bn.cell1
  have tn2 := bn.cell2
  by_cases hok : okN n
  · obtain ⟨d, hpn⟩ := ok_pn hok
    rw [decide_eq_true hok] at hch
    have hfd := fun (W' : World) (hb : Below W.heap.size W W') => find_any W' ((hr0.below q).below hb) hpn ((hk.below q).below hb)
    have hsm : smallV ((findP (pairsN n) k).getD []) := by
      cases hfp : findP (pairsN n) k with
      | none => exact ⟨by simp, fun x hx => by simp at hx⟩
      | some l =>
        obtain ⟨p, hp, _, rfl⟩ := findP_some hfp
        exact bnd_small d hpn.wf hf.2 p hp
    have hpr : prN n = pairsN n := by unfold prN; rw [if_pos hok]
    rw [hpr]
    generalize findP (pairsN n) k = fo at hfd hsm ⊢
    replace hpr := Lib.hid hpr
    clear hr0
    go_enter Try.func11, Try.ntmps11
    go_upto_region 1 with (fail)
    rw [← hW]
    clear hW
    go_wp2_with fail
    refine hch.mono ?_
    rintro e W1 ⟨rfl, hb1⟩
    have bn1 := bn.below hb1 bn.lt
    have hf1 := hfd W1 hb1
    clear tn0 tn1 tn2 hch hfd
    have tn0 := bn1.cell0
    have tn1 := bn1.cell1
    have tn2 := bn1.cell2
    go_wp2_with fail
    refine hf1.mono ?_
    rintro e W2 ⟨⟨ga, gc, rfl, hrl⟩, hb2⟩
    have hve := versions_any W2 (hrl.below hb2) hsm
    clear tn0 tn1 tn2 hf1 bn1
    go_wp2_with fail
    refine hve.mono ?_
    rintro e W3 ⟨va, vc, rfl, hnew, hb3⟩
    have q2 := (q.trans (hb1.mono q.size)).trans (hb2.mono (q.trans (hb1.mono q.size)).size)
    go_wp2_with fail
    go_ret2
    exact ⟨va, vc, rfl, hnew.weak fun g hg => ⟨Nat.le_trans q2.size hg.1, hg.2⟩, q2.trans (hb3.mono q2.size)⟩
  · rw [decide_eq_false hok] at hch
    have hpr : findP (prN n) k = none := by unfold prN; rw [if_neg hok]; rfl
    rw [hpr]
    replace hpr := Lib.hid hpr
    go_enter Try.func11, Try.ntmps11
    go_upto_region 1 with (fail)
    rw [← hW]
    clear hW
    go_wp2_with fail
    refine hch.mono ?_
    rintro e W1 ⟨rfl, hb1⟩
    go_wp2_with fail
    go_ret2
    exact ⟨none, 0, rfl, RdL.nil _ _ _, q.trans (hb1.mono q.size)⟩
end Go.Proofs.Yticngbgjfdcnhaa
namespace Go.Proofs.Yticngbgjfdcnhaa
open Go.RowKit
def PutJ (w W0 W5 : World) (n : Nd) (F : List Nat) (d : Nat) (k : List UInt8) (x : List Ver) : List Value → World → Prop
  | [], W => Below W5.heap.size W5 W
  | [vk], W => Below W5.heap.size W5 W ∧ (∃ a m c, vk = .slice a m c ∧ RdS (fun g => W5.heap.size ≤ g ∧ g < W.heap.size) W (.slice a m c) k)
  | [vk, vl], W => Below W5.heap.size W5 W ∧ (∃ a m c, vk = .slice a m c ∧ RdS (fun g => W5.heap.size ≤ g ∧ g < W.heap.size) W (.slice a m c) k) ∧ (∃ a m c, vl = .slice a m c ∧ RdL Elt.ver (fun g => W5.heap.size ≤ g ∧ g < W.heap.size) W (.slice a m c) x)
  | [_, _, vp], W => ∃ D Wb lo n1 F1, NdOf D Wb lo F W vp n1 F1 ∧ Below W5.heap.size W5 Wb ∧ (∀ g, D g → W0.heap.size ≤ g) ∧ PutN d n k x n1 ∧ TriV W (w.heap.size + 1) 28 (.slice none 0 0) (.slice none 0 0) (.slice none 0 0)
  | [_, _, _, vr], W => ∃ D Wb lo n1 F1, NdOf D Wb lo F W vr (rootF n1) F1 ∧ Below W5.heap.size W5 Wb ∧ (∀ g, D g → W0.heap.size ≤ g) ∧ PutN d n k x n1 ∧ TriV W (w.heap.size + 1) 28 (.slice none 0 0) (.slice none 0 0) (.slice none 0 0)
  | [_, _, _, vr, _], W => ∃ n1 a b c, vr = .agg #[a, b, c] ∧ PutN d n k x n1 ∧ RdN (fun g => w.heap.size ≤ g ∧ g < W.heap.size) W (.agg #[a, b, c]) (rootF n1) ∧ Below w.heap.size w W ∧ TriV W (w.heap.size + 1) 28 a b c
  | _, _ => False
theorem PutJ.more {w W0 W5 : World} {n : Nd} {F : List Nat} {d : Nat} {k : List UInt8} {x : List Ver} : ∀ (l : List Value) (W W' : World), PutJ w W0 W5 n F d k x l W → Below W.heap.size W W' → PutJ w W0 W5 n F d k x l W'
  | [], _, _, h, hb => Below.trans h (hb.mono (Below.size h))
  | [_], _, _, ⟨h1, a, m, c, e, h2⟩, hb => ⟨h1.trans (hb.mono h1.size), a, m, c, e, (h2.below hb).weak fun _ hg => ⟨hg.1, Nat.lt_of_lt_of_le hg.2 hb.size⟩⟩
  | [_, _], _, _, ⟨h1, ⟨a, m, c, e, h2⟩, a', m', c', e', h3⟩, hb => ⟨h1.trans (hb.mono h1.size), ⟨a, m, c, e, (h2.below hb).weak fun _ hg => ⟨hg.1, Nat.lt_of_lt_of_le hg.2 hb.size⟩⟩, a', m', c', e', (h3.below hb).weak fun _ hg => ⟨hg.1, Nat.lt_of_lt_of_le hg.2 hb.size⟩⟩
  | [_, _, _], _, _, ⟨D, Wb, lo, n1, F1, h1, h2, h3, h4, h5⟩, hb => ⟨D, Wb, lo, n1, F1, h1.more hb, h2, h3, h4, h5.below hb h5.lt⟩
  | [_, _, _, _], _, _, ⟨D, Wb, lo, n1, F1, h1, h2, h3, h4, h5⟩, hb => ⟨D, Wb, lo, n1, F1, h1.more hb, h2, h3, h4, h5.below hb h5.lt⟩
  | [_, _, _, _, _], _, _, ⟨n1, a, b, c, e, h1, h2, h3, h4⟩, hb => ⟨n1, a, b, c, e, h1, (h2.below hb).weak fun _ hg => ⟨hg.1, Nat.lt_of_lt_of_le hg.2 hb.size⟩, h3.trans (hb.mono h3.size), h4.below hb h4.lt⟩
set_option maxRecDepth 100000 in
set_option maxHeartbeats 8000000 in
theorem tPut_any (w : World) {S S2 S3 : Nat → Prop} {v : Value} {n : Nd} {a : Option Addr} {m c : Nat} {k : List UInt8} {a2' : Option Addr} {m2 c2' : Nat} {x : List Ver} (hr : RdN S w v n) (hf : fitN n) (hk : RdS S2 w (.slice a m c) k) (hkl : k.length ≤ 1000) (hx : RdL Elt.ver S3 w (.slice a2' m2 c2') x) (hsm : smallV x) :
    Calls Try.prog 6 #[v, .slice a m c, .slice a2' m2 c2'] w (NodeEnd w (PutIs n k x)) := by
  have hr0 := hr
  obtain ⟨a1, c1, a2, c2, a3, c3, rfl, _, _, _⟩ := hr
  obtain ⟨W, hW, q, bn, bz, hsz⟩ := triBoxes2 w 28 (.slice a1 n.keys.length c1) (.slice a2 n.chains.length c2) (.slice a3 n.kids.length c3) (.slice none 0 0) (.slice none 0 0) (.slice none 0 0)
  have hcp := copied_all (wN n) n W (Nat.le_refl _) hf.1 hf.2 (hr0.below q)
  have tn0 := bn.cell0
  have tn1 := bn.cell1
  have tn2 := bn.cell2
  obtain ⟨fs, hu, _⟩ := ndS.hu
  have hwn : wN n ≤ 1000000 := by have := hf.1; omega
  obtain ⟨rfl, _, _⟩ := hk.len
  clear hr0
  go_enter Try.func6, Try.ntmps6
  go_upto_region 1 with (fail)
  rw [← hW]
  clear hW
  go_wp2_with fail
  refine hcp.mono ?_
  rintro e W1 ⟨v', rfl, F, hat, hFF, hb1⟩
  obtain ⟨r1, d1, r2, d2, r3, d3, _, _, _, _, rfl, _⟩ := hat.opn
  have bz1 := bz.below hb1 bz.lt
  clear tn0 tn1 tn2 hcp bn bz
  go_upto_region 2 with (first
    | (refine wpList_allocT rfl rfl ?_; intro W2 hb2 ht2)
    | (refine wpList_storeT rfl rfl rfl rfl rfl rfl rfl rfl ht2 ?_; intro W3 hg3 bk)
    | fail)
  have s0 := (NdOf.start (lo := W1.heap.size + 1) hat hb2 (by omega) (by have := ht2.lt; omega)).box hg3 (Nat.le_refl _) (by omega)
  have bz3 := (bz1.below hb2 bz1.lt).other hg3 (by have := hb1.size; omega)
  have qb : Below W1.heap.size W1 W3 := hb2.grown hg3 hb2.size fun k e => by injection e with e; omega
  have hk3 := ((hk.below q).below hb1).below qb
  have hx3 := ((hx.below q).below hb1).below qb
  clear ht2 hg3 hb2 bz1
  have hch := tCheck_any W3 s0.at'.rdN hwn
  have tk0 := bk.cell0
  have tk1 := bk.cell1
  have tk2 := bk.cell2
  have fin1 : ∀ (W4 W5 : World), NdOf _ W1 _ F W4 (.agg #[.slice r1 n.keys.length d1, .slice r2 n.chains.length d2, .slice r3 n.kids.length d3]) n F → W4.grownBy W5 (Option.some (w.heap.size + 1)) → _ := fun W4 W5 s hg => s.done (D := fun g => W.heap.size ≤ g ∧ g < W1.heap.size ∧ g ∉ F) (lo := W1.heap.size + 1) q hb1 (fun g hd => hd.1) hFF hg (by omega) (by omega)
  by_cases hok : okN n
  · obtain ⟨d, hpn⟩ := ok_pn hok
    rw [decide_eq_true hok] at hch
    go_wp2_with fail
    refine hch.mono ?_
    rintro e W4 ⟨rfl, hb4⟩
    have s4 := s0.more hb4
    have bk4 := bk.below hb4 bk.lt
    have bz4 := bz3.below hb4 bz3.lt
    have hk4 := hk3.below hb4
    have hx4 := hx3.below hb4
    have qb4 := qb.trans (hb4.mono qb.size)
    clear tk0 tk1 tk2 hch bk bz3 s0 hk3 hx3 qb
    have hft := fits_any W4 (a := a) (n := k.length) (c := c) hx4
    by_cases hfit : k.length ≤ 16 ∧ x ≠ [] ∧ okV x
    · rw [decide_eq_true hfit] at hft
      replace hfit := Lib.hid hfit
      go_wp2_with fail
      refine hft.mono ?_
      rintro e W5 ⟨rfl, hb5⟩
      have s5 := s4.more hb5
      have bk5 := bk4.below hb5 bk4.lt
      have bz5 := bz4.below hb5 bz4.lt
      have hk5 := hk4.below hb5
      have hx5 := hx4.below hb5
      have qb5 := qb4.trans (hb5.mono qb4.size)
      clear bk4 bz4 s4 hk4 hx4 qb4 hft
      have hw5 : w.heap.size + 2 ≤ W5.heap.size := by have := bz5.lt; have := qb5.size; have := hb1.size; omega
      have eC : ∀ args w, (callFunc 21 args).run Try.prog w = .ok (.enter 21 args) w := enters_of Try.func21 (by kernel_rfl) rfl
      have eV : ∀ args w, (callFunc 22 args).run Try.prog w = .ok (.enter 22 args) w := enters_of Try.func22 (by kernel_rfl) rfl
      have eP : ∀ args w, (callFunc 20 args).run Try.prog w = .ok (.enter 20 args) w := enters_of Try.func20 (by kernel_rfl) rfl
      have eR : ∀ args w, (callFunc 17 args).run Try.prog w = .ok (.enter 17 args) w := enters_of Try.func17 (by kernel_rfl) rfl
      have hFl : ∀ g ∈ F, g < W5.heap.size := s5.at'.lt
      go_upto_region 4 with (fail)
      refine wp_region_lnl (K := fun _ _ => True) (by kernel_rfl) (by kernel_rfl) [2, 4, 5, 6, 7] (by kernel_rfl) [lEq (.agg #[.slice r1 n.keys.length d1, .slice r2 n.chains.length d2, .slice r3 n.kids.length d3]), lEq (.slice a k.length c), lAny, lEq (.slice a2' m2 c2'), lAny, lAny, lAny, lAny, lEq (.int .i64 0)] (PutJ w W W5 n F d k x) PutJ.more (show Below W5.heap.size W5 W5 from Below.refl _ _)
        ⟨?o0, ?o1, ?o2, ?o3, ?o4, ?o5, ?o6, ?o7, ?o8, trivial⟩ ?fin
      case o0 =>
        refine LnOp.side rfl (by kernel_rfl) (fun A va w' k' hF hT hk hJ hb hu hp hd => ?_)
        have e1 : A.eval (.tmp 8) = .pointer (some ⟨W1.heap.size, 0, none⟩) := hF 8 rfl
        have hk2 : k' ≤ 2 := hb 2 5 rfl (by kernel_rfl)
        have hB : Below W5.heap.size W5 w' := by
          rcases k' with _ | _ | _ | k'
          · exact hJ
          · exact (show PutJ w W W5 n F d k x [va 2] w' from hJ).1
          · exact (show PutJ w W W5 n F d k x [va 2, va 4] w' from hJ).1
          · omega
        exact wp_load3 ndS rfl e1 (bk5.below hB bk5.lt).cell0 (bk5.below hB bk5.lt).cell1 (bk5.below hB bk5.lt).cell2 ⟨_, rfl, rfl, Below.refl _ _⟩
      case o1 =>
        refine LnOp.side rfl (by kernel_rfl) (fun A va w' k' hF hT hk hJ hb hu hp hd => ?_)
        have e1 : A.eval (.tmp 1) = .slice a k.length c := hF 1 rfl
        exact BigFrame.wp_move _ rfl ⟨_, rfl, e1, Below.refl _ _⟩
      case o2 =>
        refine LnOp.line 0 rfl rfl (fun A va w' hF hT hJ hu hd => ?_)
        have e1 : A.eval (.tmp 22) = .slice a k.length c := (hT 22 1 (by simp) rfl).trans (hd ⟨1, .data⟩ (by simp) rfl rfl)
        have hB : Below W5.heap.size W5 w' := hJ
        refine wp_callFn rfl eC (args := #[.slice a k.length c]) (by simp only [List.map_toArray, List.map_cons, List.map_nil, e1]) ((clone_any w' (hk5.below hB).rd (Nat.le_refl _) (by omega)).mono ?_)
        rintro e W6 ⟨ad', k2, c', rfl, hf'⟩
        exact ⟨_, rfl, _, rfl, ⟨hB.trans (hf'.1.mono hB.size), ad', k2, c', rfl, hf'.2.rdS.weak fun g hg => ⟨by have := hB.size; omega, hg.2⟩⟩, trivial⟩
      case o3 =>
        refine LnOp.side rfl (by kernel_rfl) (fun A va w' k' hF hT hk hJ hb hu hp hd => ?_)
        have e1 : A.eval (.tmp 2) = .slice a2' m2 c2' := hF 2 rfl
        exact BigFrame.wp_move _ rfl ⟨_, rfl, e1, Below.refl _ _⟩
      case o4 =>
        refine LnOp.line 1 rfl rfl (fun A va w' hF hT hJ hu hd => ?_)
        have e1 : A.eval (.tmp 24) = .slice a2' m2 c2' := (hT 24 3 (by simp) rfl).trans (hd ⟨3, .data⟩ (by simp) rfl rfl)
        have hJ' : PutJ w W W5 n F d k x [va 2] w' := hJ
        obtain ⟨hB, a', m', c', ek, hkr⟩ := hJ'
        refine wp_callFn rfl eV (args := #[.slice a2' m2 c2']) (by simp only [List.map_toArray, List.map_cons, List.map_nil, e1]) ((versions_any w' (hx5.below hB) hsm).mono ?_)
        rintro e W6 ⟨a3', c3', rfl, hnew, hb6⟩
        exact ⟨_, rfl, _, rfl, ⟨hB.trans (hb6.mono hB.size), ⟨a', m', c', ek, (hkr.below hb6).weak fun g hg => ⟨hg.1, Nat.lt_of_lt_of_le hg.2 hb6.size⟩⟩, _, _, _, rfl, hnew.weak fun g hg => ⟨by have := hB.size; omega, hg.2⟩⟩, trivial⟩
      case o5 =>
        refine LnOp.line 2 rfl rfl (fun A va w' hF hT hJ hu hd => ?_)
        have e1 : A.eval (.tmp 21) = .agg #[.slice r1 n.keys.length d1, .slice r2 n.chains.length d2, .slice r3 n.kids.length d3] := (hT 21 0 (by simp) rfl).trans (hd ⟨0, .data⟩ (by simp) rfl rfl)
        have x2 : A.eval (.tmp 23) = va 2 := hT 23 2 (by simp) rfl
        have x3 : A.eval (.tmp 25) = va 4 := hT 25 4 (by simp) rfl
        have hJ' : PutJ w W W5 n F d k x [va 2, va 4] w' := hJ
        obtain ⟨hB, ⟨a', m', c', ek, hkr⟩, a'', m'', c'', ev, hvr⟩ := hJ'
        have z1 := hB.size
        have z2 := hb1.size
        have z3 := qb5.size
        obtain ⟨⟨vs, e0, ho⟩, hnd, _, _⟩ := s5.at'.below hB
        have hat' : NdAt (fun g => W.heap.size ≤ g ∧ g < w'.heap.size ∧ g ∉ F) w' (.agg #[.slice r1 n.keys.length d1, .slice r2 n.chains.length d2, .slice r3 n.kids.length d3]) n F := ⟨⟨vs, e0, own_weak (fun g hg => ⟨hg.1, by omega, hg.2.2⟩) n ho⟩, hnd, fun g hg hd => hd.2.2 hg, fun g hd => hd.2.1⟩
        refine wp_callFn rfl eP (args := #[.agg #[.slice r1 n.keys.length d1, .slice r2 n.chains.length d2, .slice r3 n.kids.length d3], .slice a' m' c', .slice a'' m'' c'']) (by simp only [List.map_toArray, List.map_cons, List.map_nil, e1, x2.trans ek, x3.trans ev]) ((put_any d w' _ _ n F _ _ _ _ _ _ k x hat' hpn (hkr.weak fun g hg => ⟨by omega, hg.2, fun hm => by have := hFl g hm; omega⟩) (hvr.weak fun g hg => ⟨by omega, hg.2, fun hm => by have := hFl g hm; omega⟩)).mono ?_)
        rintro e W6 hto
        obtain ⟨v6, n6, F6, rfl, hq6, s6, t6⟩ := (NdOf.start hat' (Below.refl _ _) (Nat.le_refl _) (Nat.le_refl _)).step hto
        exact ⟨_, rfl, _, rfl, ⟨_, w', _, n6, F6, s6, hB, fun g hd => hd.1, hq6, (t6.block _ (bz5.below hB bz5.lt).lt (fun hm => by have := hFF _ hm; omega)).trans (bz5.below hB bz5.lt)⟩, trivial⟩
      case o6 =>
        refine LnOp.line 3 rfl rfl (fun A va w' hF hT hJ hu hd => ?_)
        have x1 : A.eval (.tmp 26) = va 5 := hT 26 5 (by simp) rfl
        have hJ' : PutJ w W W5 n F d k x [va 2, va 4, va 5] w' := hJ
        obtain ⟨D, Wb, lo, n1, F1, s, hBb, hD, hput, bzb⟩ := hJ'
        refine wp_callFn rfl eR (args := #[va 5]) (by simp only [List.map_toArray, List.map_cons, List.map_nil, x1]) ((rooted_any w' s.at' (hput.1.mono (Nat.zero_le _) hput.1.keys.2)).mono ?_)
        rintro e W6 hto
        obtain ⟨v6, n6, F6, rfl, hq6, s6, t6⟩ := s.step hto
        rw [hq6] at s6
        exact ⟨_, rfl, _, rfl, ⟨D, Wb, lo, n1, F6, s6, hBb, hD, hput, (t6.block _ bzb.lt (fun hm => by rcases s.fr _ hm with h1 | h1; have := hFF _ h1; omega; have := s.lo1; have := hBb.size; omega)).trans bzb⟩, trivial⟩
      case o7 =>
        refine LnOp.line 4 rfl rfl (fun A va w' hF hT hJ hu hd => ?_)
        have e1 : A.eval (.tmp 6) = .pointer (some ⟨w.heap.size + 1, 0, none⟩) := hF 6 rfl
        have x2 : A.eval (.tmp 27) = va 6 := hT 27 6 (by simp) rfl
        have hJ' : PutJ w W W5 n F d k x [va 2, va 4, va 5, va 6] w' := hJ
        obtain ⟨D, Wb, lo, n1, F1, s, hBb, hD, hput, bzb⟩ := hJ'
        obtain ⟨y1, f1, y2, f2, y3, f3, _, _, _, _, ev, _⟩ := s.at'.opn
        refine wp_storeT rfl e1 (x2.trans ev) rfl rfl rfl bzb (fun w2 hg ht => ?_)
        obtain ⟨hrd, hbl⟩ := s.done q (hb1.trans ((qb5.trans (hBb.mono qb5.size)).mono hb1.size)) hD hFF hg (by omega) (by omega)
        rw [ev] at hrd
        exact ⟨_, rfl, ⟨n1, _, _, _, ev, hput, hrd, hbl, ht⟩, trivial⟩
      case o8 =>
        refine LnOp.side rfl (by kernel_rfl) (fun A va w' k' hF hT hk hJ hb hu hp hd => ?_)
        exact BigFrame.wp_assign _ rfl ⟨_, rfl, rfl, Below.refl _ _⟩
      case fin =>
        intro vs1 W9 hJ hGG
        have e8 : vs1 8 = .int .i64 0 := hGG 8 (by decide) rfl
        clear hGG
        obtain ⟨n1, y1, y2, y3, _, hput, hrd, hbl, bz9⟩ := hJ
        simp only [putAll, e8]
        go_simp
        go_wp2_with fail
        have hs1 : Srt (pairsN n1) := by rw [hput.2]; exact put_srt hpn.srt
        obtain ⟨⟨d', hp'⟩, hpr⟩ := root_spec (hput.1.mono (Nat.zero_le _) hput.1.keys.2) hs1
        have hq : PutIs n k x (rootF n1) 0 := by
          unfold PutIs
          rw [if_pos ⟨hok, hfit.out.1, hfit.out.2.2, hfit.out.2.1⟩]
          exact ⟨rfl, pn_ok hp' (by rw [hpr, hput.2]; exact ((okP_iff _).1 (put_okP hok.2 hfit.out.1 hfit.out.2.2 hfit.out.2.1)).1), by rw [hpr, hput.2]⟩
        exact bodyPost_ret (v := .tuple #[.agg #[y1, y2, y3], .int .i64 0]) (by simp [results, Try.results6, go_sem, loadVar, isAgg, run_underlying hu, run_sizeOf' ndS.hs, loadCellsFrom, Addr.add, bz9.cell0, bz9.cell1, bz9.cell2]) rfl ⟨_, rootF n1, 0, rfl, hq, hrd, hbl⟩
    · rw [decide_eq_false hfit] at hft
      go_wp2_with fail
      refine hft.mono ?_
      rintro e W5 ⟨rfl, hb5⟩
      have s5 := s4.more hb5
      have bk5 := bk4.below hb5 bk4.lt
      have bz5 := bz4.below hb5 bz4.lt
      clear bk4 bz4 s4 hft
      have tk0 := bk5.cell0
      have tk1 := bk5.cell1
      have tk2 := bk5.cell2
      go_wp2_with (first | (refine wpList_storeT rfl rfl rfl rfl rfl rfl rfl rfl bz5 ?_; intro W6 hg6 bz6) | fail)
      obtain ⟨hrd, hbl⟩ := fin1 _ _ s5 hg6
      exact bodyPost_ret (v := .tuple #[.agg #[.slice r1 n.keys.length d1, .slice r2 n.chains.length d2, .slice r3 n.kids.length d3], .int .i64 1]) (by simp [results, Try.results6, go_sem, loadVar, isAgg, run_underlying hu, run_sizeOf' ndS.hs, loadCellsFrom, Addr.add, bz6.cell0, bz6.cell1, bz6.cell2]) rfl ⟨_, n, 1, rfl, by unfold PutIs; rw [if_neg (fun h => hfit ⟨h.2.1, h.2.2.2, h.2.2.1⟩)]; exact ⟨rfl, rfl⟩, hrd, hbl⟩
  · rw [decide_eq_false hok] at hch
    go_wp2_with fail
    refine hch.mono ?_
    rintro e W4 ⟨rfl, hb4⟩
    have s4 := s0.more hb4
    have bk4 := bk.below hb4 bk.lt
    have bz4 := bz3.below hb4 bz3.lt
    clear tk0 tk1 tk2 hch bk bz3 s0
    have tk0 := bk4.cell0
    have tk1 := bk4.cell1
    have tk2 := bk4.cell2
    go_wp2_with (first | (refine wpList_storeT rfl rfl rfl rfl rfl rfl rfl rfl bz4 ?_; intro W5 hg5 bz5) | fail)
    obtain ⟨hrd, hbl⟩ := fin1 _ _ s4 hg5
    exact bodyPost_ret (v := .tuple #[.agg #[.slice r1 n.keys.length d1, .slice r2 n.chains.length d2, .slice r3 n.kids.length d3], .int .i64 1]) (by simp [results, Try.results6, go_sem, loadVar, isAgg, run_underlying hu, run_sizeOf' ndS.hs, loadCellsFrom, Addr.add, bz5.cell0, bz5.cell1, bz5.cell2]) rfl ⟨_, n, 1, rfl, by unfold PutIs; rw [if_neg (fun h => hok h.1)]; exact ⟨rfl, rfl⟩, hrd, hbl⟩
end Go.Proofs.Yticngbgjfdcnhaa
namespace Go.Proofs.Yticngbgjfdcnhaa
open Go.RowKit
theorem calls_of_wp_marks {P : Program} {f : FuncId} {fn : Func} {c : Code} {args : Array Value} {w : World} {R : Ending → World → Prop} (hf : P.funcs[f]? = some fn) (hb : fn.body = some c)
    (h : c.wp P (bodyPostM Fence.wide 3 P fn R) { tmps := args ++ Array.replicate (fn.ntmps - args.size) undef, defers := [] } w) : Calls P f args w R :=
  (callsIn_wide (n := 3)).1 (callsIn_of_wp_marks hf hb trivial (wpIn_wide.2 h) rfl)
theorem wp_rangeFunc {P : Program} {α : Type} {g : Operand} {ps : Array Tmp} {assign body : Code} {Q : Exit → Act → World → Prop} {a : Act} {w : World}
    {gf : Nat} {lb : Array Value} (hg : a.eval g = .func (.func gf) #[] lb) (eg : ∀ args w, (callFunc gf args).run P w = .ok (.enter gf args) w)
    {encs : α → Array Value} {Kp : World → World → Prop} {S Sp : List α → Prop} {N : Nat} {w0 : World} (hseq : SeqStopsK Fence.wide 2 P gf lb encs Kp S Sp N w0)
    (hKt : ∀ {A B C : World}, Kp A B → Kp B C → Kp A C) (hKb : ∀ (W : World) (l : Nat) (o o' : Obj), w.heap.size ≤ l → W.heap[l]? = some o → o.isCells = false → o.isWalk = false → Kp W (W.putObj l o')) (hb0 : Below w0.heap.size w0 w) (hps : ∀ x, (encs x).size = ps.size)
    (I : List α → World → Prop) (Ix : Code → List α → World → Prop) (hI : OwnFrom w.heap.size I) (hIx : ∀ c, OwnFrom w.heap.size (Ix c)) (h0 : I [] w) (a₁ : α → Act)
    (hassign : ∀ (l : Nat) (x : α) (W : World) (K : Act → World → Prop), K (a₁ x) W →
      assign.wpIn (Fence.wide.inRound l) 1 P (Exit.then K (fun _ _ _ => False)) { tmps := (ps.zip (encs x)).foldl (fun t (p, v) => t.setIfInBounds p v) a.tmps, defers := [] } W)
    (hbody : ∀ (l : Nat) (pre : List α) (x : α) (W : World), I pre W → pre.length < N → body.wpIn (Fence.wide.inRound l) 1 P (ownPostG w.heap.size Kp I Ix (pre ++ [x]) W) (a₁ x) W)
    (hdone : ∀ (D : Nat) (xs : List α) (W : World), w.heap.size ≤ D → S xs → I xs W → W.heap[D]? = some (.deferred (some [])) → Q .normal { a with defers := { target := .collected D, args := #[] } :: a.defers } W)
    (hstop : ∀ (D : Nat) (c : Code) (pre : List α) (W : World), w.heap.size ≤ D → Sp pre → Ix c pre W → W.heap[D]? = some (.deferred (some [])) → c.wp P Q { a with defers := { target := .collected D, args := #[] } :: a.defers } W) :
    (Code.rangeFunc g ps assign body).wp P Q a w :=
  (wpIn_wide (n := 3)).1 (wpIn_rangeFunc_ownG rfl (by omega) hg trivial eg hseq hKt hKb hb0 hps I Ix hI hIx h0 a₁ hassign hbody hdone fun D c pre W h1 h2 h3 h4 => wpIn_wide.2 (hstop D c pre W h1 h2 h3 h4))
end Go.Proofs.Yticngbgjfdcnhaa
namespace Go.Proofs.Yticngbgjfdcnhaa
def geK (l : List Pr) (k : List UInt8) : List (List UInt8) := (l.filter fun p => !ltB p.key k).map (·.key)
theorem geK_app (a b : List Pr) (k : List UInt8) : geK (a ++ b) k = geK a k ++ geK b k := by simp [geK]
theorem geK_cons (p : Pr) (l : List Pr) (k : List UInt8) : geK (p :: l) k = if ltB p.key k then geK l k else p.key :: geK l k := by
  unfold geK
  rw [List.filter_cons]
  cases ltB p.key k <;> simp
theorem geK_none {l : List Pr} {k : List UInt8} (h : ∀ p ∈ l, ltB p.key k = true) : geK l k = [] := by
  unfold geK
  rw [List.filter_eq_nil_iff.2 fun p hp => by simp [h p hp]]
  rfl
theorem geK_all (l : List Pr) : geK l [] = l.map (·.key) := by
  unfold geK
  rw [List.filter_eq_self.2 fun p _ => by rw [ltB_nil]; rfl]
theorem geK_head (l : List Pr) (k : List UInt8) : (geK l k).head? = nextP l k := by
  induction l with
  | nil => rfl
  | cons p l ih =>
    rw [geK_cons, nextP_cons]
    cases ltB p.key k with
    | true => simpa using ih
    | false => simp
theorem geK_len (l : List Pr) (k : List UInt8) : (geK l k).length ≤ l.length := by
  unfold geK
  rw [List.length_map]
  exact List.length_filter_le _ _
def remN (n : Nd) (i : Nat) : List Pr := inter ((psN n).drop i) ((kpN n).drop i)
def sufN (n : Nd) (i : Nat) : List Pr := suf ((kpN n).drop i) ((psN n).drop (i + 1))
theorem ps_get {n : Nd} {i : Nat} (hi : i < n.kids.length) : (psN n).drop i = pairsN n.kids[i] :: (psN n).drop (i + 1) := by
  have hl : i < (psN n).length := by unfold psN; rw [List.length_map]; exact hi
  rw [List.drop_eq_getElem_cons hl]
  congr 1
  exact List.getElem_map (l := n.kids) pairsN
theorem rem_kid {n : Nd} {i : Nat} (hi : i < n.kids.length) : remN n i = pairsN n.kids[i] ++ sufN n i := by
  unfold remN sufN
  rw [ps_get hi, inter_cons]
theorem ps_nil {n : Nd} (h0 : n.kids = []) : psN n = [] := by unfold psN; rw [h0]; rfl
theorem suf_end {n : Nd} (hc : n.chains.length = n.keys.length) {i : Nat} (hi : n.keys.length ≤ i) : sufN n i = [] := by
  unfold sufN
  rw [List.drop_of_length_le (by rw [kp_len hc]; exact hi)]
  rfl
theorem suf_key {n : Nd} (hc : n.chains.length = n.keys.length) {i : Nat} (hi : i < n.keys.length) : sufN n i = ⟨n.keys[i], n.chains[i]'(by omega)⟩ :: remN n (i + 1) := by
  unfold sufN remN
  have h2 : i < (kpN n).length := by rw [kp_len hc]; exact hi
  have h3 := kp_get hc hi
  rw [List.getElem?_eq_getElem h2] at h3
  rw [List.drop_eq_getElem_cons h2, Option.some.inj h3]
  rfl
theorem rem_leaf {n : Nd} (h0 : n.kids = []) (i : Nat) : remN n i = sufN n i := by
  unfold remN sufN
  rw [ps_nil h0]
  simp only [List.drop_nil, inter]
  cases h : (kpN n).drop i with
  | nil => rfl
  | cons p r => rfl
theorem rem_place {d : Nat} {n : Nd} (h : Pn d n) (k : List UInt8) : geK (pairsN n) k = geK (remN n (plcF n.keys k)) k := by
  obtain ⟨hc, hsh⟩ := h.wf.shape
  obtain ⟨i, hi⟩ : ∃ i, i = plcF n.keys k := ⟨_, rfl⟩
  rw [← hi]
  rcases hsh with h0 | h0
  · obtain ⟨m1, _⟩ := leaf_mid (k := k) hc h.ris
    rw [← hi] at m1
    have e : pairsN n = (kpN n).take i ++ (kpN n).drop i := by
      rw [pairs_inter hc (.inl h0), ps_nil h0, List.take_append_drop]
      rfl
    have e2 : remN n i = (kpN n).drop i := by
      unfold remN
      rw [ps_nil h0, List.drop_nil]
      rfl
    rw [e, e2, geK_app, geK_none m1]
    rfl
  · obtain ⟨m1, _⟩ := place_mid (k := k) hc h0 h.srt h.ris hi
    have hle : i ≤ n.keys.length := hi ▸ plc_le _ _
    have hlt : i < n.kids.length := by omega
    rw [rem_kid hlt, pairs_kid hc h0 hlt, List.append_assoc, geK_app, geK_none m1]
    rfl
theorem plc_ge {n : Nd} {d i : Nat} {k : List UInt8} (h : Pn d n) (hi : plcF n.keys k ≤ i) (hl : i < n.keys.length) : ltB n.keys[i] k = false := by
  rw [plc_lt h.ris i hl]
  exact decide_eq_false (by omega)
theorem geK_suf {n : Nd} {d i : Nat} {k : List UInt8} (h : Pn d n) (hi : plcF n.keys k ≤ i) (hl : i < n.keys.length) : geK (sufN n i) k = n.keys[i] :: geK (remN n (i + 1)) k := by
  rw [suf_key h.wf.shape.1 hl, geK_cons, plc_ge h hi hl]
  rfl
end Go.Proofs.Yticngbgjfdcnhaa
namespace Go.Proofs.Yticngbgjfdcnhaa
open Go.RowKit Go.Shelf
attribute [local go_sem] Oper.semAt_some
structure KeyAt (w0 : World) where
  ad : Option Addr
  c : Nat
  t : List UInt8
  le : t.length ≤ 1000000
  rd : RdS (· < w0.heap.size) w0 (.slice ad t.length c) t
def KeyAt.enc {w0 : World} (x : KeyAt w0) : Array Value := #[.slice x.ad x.t.length x.c]
def KpW (n₀ : Nat) (A B : World) : Prop := Below n₀ A B ∧ ∀ (j : Nat) (c : Array Value) (r : Nat × Nat), A.heap[j]? = some (.cells c 28 r) → B.heap[j]? = A.heap[j]?
theorem KpW.trans {n₀ : Nat} {A B C : World} (h : KpW n₀ A B) (k : KpW n₀ B C) : KpW n₀ A C := ⟨h.1.trans k.1, fun j c r e => (k.2 j c r ((h.2 j c r e).trans e)).trans (h.2 j c r e)⟩
theorem KpW.refl (n₀ : Nat) (A : World) : KpW n₀ A A := ⟨Below.refl _ _, fun _ _ _ _ => rfl⟩
theorem KpW.of {n₀ : Nat} {A B : World} (h : Below A.heap.size A B) (hn : n₀ ≤ A.heap.size) : KpW n₀ A B := ⟨h.mono hn, fun j _ _ e => h.block j (Array.getElem?_eq_some_iff.1 e).1⟩
theorem KpW.tri {n₀ b : Nat} {A B : World} {x y z : Value} (h : KpW n₀ A B) (t : TriV A b 28 x y z) : TriV B b 28 x y z := (h.2 b _ _ t).trans t
theorem rdS_to {w0 w : World} {v : Value} {xs : List UInt8} (h : RdS (· < w0.heap.size) w0 v xs) (hb : Below w0.heap.size w0 w) : RdS (· < w0.heap.size) w v xs := h.keep fun k hk => hb.block k hk
theorem rdN_to {w0 w : World} {v : Value} {n : Nd} (h : RdN (· < w0.heap.size) w0 v n) (hb : Below w0.heap.size w0 w) : RdN (· < w0.heap.size) w v n := h.keep fun k hk => hb.block k hk
theorem grown_below {W W' : World} (h : Below W.heap.size W W') : W.grownBy W' none := ⟨h.os, h.tape, h.output, h.size, fun k hk _ => h.block k hk⟩
theorem room_wide' (k : Nat) : Fence.wide.room k := fun d h => by cases h
theorem yield_any {m : Nat} (m' : Nat) {P : Program} {l : Nat} {args : Array Value} {W : World} {R : Ending → World → Prop} (h : YieldAt Fence.wide m P l args W R) : YieldAt Fence.wide m' P l args W R := by
  obtain ⟨fn, tmps, assign, body, hy, hR⟩ := h
  exact ⟨fn, tmps, assign, body, hy, hR.1, fun c cs _ => hR.2 c cs (room_wide' _)⟩
def PreK {w0 : World} (ks : List (List UInt8)) (ys : List (KeyAt w0)) : Prop := ∃ r, ks = ys.map (·.t) ++ r
def WalkEnd {w0 : World} (J Jx : List (KeyAt w0) → World → Prop) (pre : List (KeyAt w0)) (ks : List (List UInt8)) (W : World) (e : Ending) (W' : World) : Prop :=
  (e = .returned (.bool true) ∧ (∃ ys, ys.map (·.t) = ks ∧ J (pre ++ ys) W') ∧ KpW w0.heap.size W W') ∨ (e = .returned (.bool false) ∧ ∃ ys, PreK ks ys ∧ Jx (pre ++ ys) W')
def WalkR {w0 : World} (J : List (KeyAt w0) → World → Prop) (pre : List (KeyAt w0)) (n : Nd) (k : List UInt8) (W : World) (v : Value) (wr : World) : Prop :=
  ∃ (i : Nat) (ys : List (KeyAt w0)), v = .int .i64 (i : Int) ∧ plcF n.keys k ≤ i ∧ i ≤ n.keys.length + 1 ∧ geK (pairsN n) k = ys.map (·.t) ++ geK (remN n i) k ∧ J (pre ++ ys) wr ∧ KpW w0.heap.size W wr
def toN : Value → Nat
  | .int _ i => i.toNat
  | _ => 0
def WalkAt (l : Nat) {w0 : World} (J Jx : List (KeyAt w0) → World → Prop) (k : List UInt8) (N d : Nat) : Prop :=
  ∀ (n : Nd) (m : Nat) (v : Value) (a : Option Addr) (c : Nat) (pre : List (KeyAt w0)) (W : World), Pn d n → bndN n → RdN (· < w0.heap.size) w0 v n → KpW w0.heap.size w0 W → RdS (· < w0.heap.size) w0 (.slice a k.length c) k → J pre W → pre.length + (geK (pairsN n) k).length ≤ N →
    CallsIn Fence.wide m Try.prog 47 #[v, .slice a k.length c, .func (.yield l) #[] #[]] W (WalkEnd J Jx pre (geK (pairsN n) k) W)
theorem rem_done {d : Nat} {n : Nd} (h : Pn d n) : remN n (n.keys.length + 1) = [] := by
  obtain ⟨hc, hsh⟩ := h.wf.shape
  have e : (kpN n).drop (n.keys.length + 1) = [] := List.drop_of_length_le (by rw [kp_len hc]; omega)
  unfold remN
  rw [e]
  cases hps : (psN n).drop (n.keys.length + 1) with
  | nil => rfl
  | cons p r =>
    have := congrArg List.length hps
    unfold psN at this
    rw [List.length_drop, List.length_map, List.length_cons] at this
    rcases hsh with h1 | h1
    · rw [h1] at this; simp at this
    · omega
set_option maxRecDepth 100000 in
set_option maxHeartbeats 4000000 in
theorem walk_step (l : Nat) {w0 : World} {J Jx : List (KeyAt w0) → World → Prop} {k : List UInt8} {N d B : Nat} (hAb : AbidesFrom B J)
    (hY : ∀ m pre x W, J pre W → pre.length < N → YieldAt Fence.wide m Try.prog l x.enc W fun e W' => (e = .returned (.bool true) ∧ J (pre ++ [x]) W' ∧ KpW w0.heap.size W W') ∨ (e = .returned (.bool false) ∧ Jx (pre ++ [x]) W'))
    (ih : ∀ d', d' < d → WalkAt l J Jx k N d') : WalkAt l J Jx k N d := by
  intro n m v a c pre W hp hbd hr hW hk hJ hN
  obtain ⟨hbk, _, hbm⟩ := (bndN_def n).1 hbd
  have hr0 := hr
  obtain ⟨a1, c1, a2, c2, a3, c3, rfl, rk, rc, rn⟩ := hr
  have hkk := hp.wf.keys.2
  obtain ⟨hsh1, hsh2⟩ := hp.wf.shape
  have bn := TriV.new W 28 (.slice a1 n.keys.length c1) (.slice a2 n.chains.length c2) (.slice a3 n.kids.length c3)
  have hb0 : Below W.heap.size W (W.alloc (.cells #[.slice a1 n.keys.length c1, .slice a2 n.chains.length c2, .slice a3 n.kids.length c3] 28)) := (Below.refl _ _).alloc (Nat.le_refl _) _
  obtain ⟨W1, hW1⟩ : ∃ W1, W1 = W.alloc (.cells #[.slice a1 n.keys.length c1, .slice a2 n.chains.length c2, .slice a3 n.kids.length c3] 28) := ⟨_, rfl⟩
  rw [← hW1] at bn hb0
  have k1 : KpW w0.heap.size W W1 := KpW.of hb0 hW.1.size
  have hpl := place_any W1 (rdN_to hr0 (hW.trans k1).1) hp.ris (by omega) (rdS_to hk (hW.trans k1).1)
  obtain ⟨i0, hi0⟩ : ∃ i, i = plcF n.keys k := ⟨_, rfl⟩
  obtain ⟨is, his⟩ : ∃ is, is = isF n.keys k := ⟨_, rfl⟩
  rw [← hi0, ← his] at hpl
  have hrp := Lib.hid (rem_place hp k)
  have hi0' := Lib.hid hi0
  have hil : i0 ≤ n.keys.length := by rw [hi0]; exact plc_le _ _
  replace hsh1 := Lib.hid hsh1
  replace hsh2 := Lib.hid hsh2
  replace his := Lib.hid his
  clear hi0
  refine callsIn_of_wp Try.func47 rfl trivial ?_ rfl
  simp only [Try.ntmps47, List.size_toArray, List.length_cons, List.length_nil, Nat.reduceAdd, Nat.reduceSub, Array.replicate_succ, Array.replicate_zero, List.push_toArray, List.append_toArray, List.nil_append, List.cons_append]
  refine wpIn_wide.2 ?_
  go_upto_region 1 with (fail)
  rw [← hW1]
  clear hW1
  have tn0 := bn.cell0
  have tn1 := bn.cell1
  have tn2 := bn.cell2
  go_wp2_with fail
  refine hpl.mono ?_
  rintro e W2 ⟨rfl, hb2⟩
  clear tn0 tn1 tn2
  have bn2 := bn.below hb2 bn.lt
  have k2 : KpW w0.heap.size W W2 := k1.trans (KpW.of hb2 (by have := hW.1.size; have := k1.1.size; omega))
  have hsz2 : W.heap.size ≤ W2.heap.size := Nat.le_trans hb0.size hb2.size
  have hJ2 : J pre W2 := hAb _ _ _ none (hAb _ _ _ none hJ (grown_below hb0) (by simp)) (grown_below hb2) (by simp)
  have r0 : WalkR J pre n k W2 (.int .i64 (i0 : Int)) W2 := ⟨i0, [], rfl, by rw [hi0'.out]; exact Nat.le_refl _, by omega, by rw [hrp.out, hi0'.out]; rfl, by rw [List.append_nil]; exact hJ2, KpW.refl _ _⟩
  have hW2 := hW.trans k2
  clear bn hb0 hpl k1 hb2 hJ2 hsz2
  go_wp2_with fail
  refine (wpIn_wide (n := m)).1 ?_
  gi_loopw [7] (fun v wr => WalkR J pre n k W2 v wr) (fun v _ => n.keys.length + 2 - toN v)
  case atStart => exact r0
  case round =>
    obtain ⟨i, ys, rfl, hi1, hi2, hge, hJr, hKr⟩ := hrel
    clear r0
    have bnr := hKr.tri bn2
    have hW3 := hW2.trans hKr
    have tn0 := bnr.cell0
    have tn1 := bnr.cell1
    have tn2 := bnr.cell2
    refine wpIn_wide.2 ?_
    rcases Nat.lt_or_ge n.keys.length i with hl | hl
    · have d1 : decide ((i : Int) ≤ (n.keys.length : Int)) = false := by simp; omega
      obtain rfl : i = n.keys.length + 1 := by omega
      go_wp2_with fail
      go_ret
      refine .inl ⟨rfl, ⟨ys, ?_, hJr⟩, k2.trans hKr⟩
      rw [hge, rem_done hp, geK_none (fun p h => by cases h), List.append_nil]
    · have d1 : decide ((i : Int) ≤ (n.keys.length : Int)) = true := by simp; omega
      have hJb : ∀ W' : World, Below wr.heap.size wr W' → J (pre ++ ys) W' := fun W' hb => hAb _ _ _ none hJr (grown_below hb) (by simp)
      rcases Nat.lt_or_ge i n.kids.length with hkd | hkd
      · have d2 : decide ((i : Int) < (n.kids.length : Int)) = true := by simp; omega
        obtain ⟨d', ed, hd', hkl, hpk, _, _⟩ := hp.kid hkd
        have ihk := ih d' (by omega) n.kids[i] (m - 1)
        obtain ⟨gb, off, xa, xc, ya, yc, za, zc, rfl, c0, c1', c2', hrk⟩ := rn.kid i hkd
        have ihk := (callsIn_wide (n := m)).1 (ih d' (by omega) n.kids[i] m _ a c (pre ++ ys) wr hpk (hbm _ (List.getElem_mem hkd)) hrk hW3 hk hJr (by
          have h1 := congrArg List.length hge
          rw [rem_kid hkd, geK_app] at h1
          simp only [List.length_append, List.length_map] at h1 ⊢
          omega))
        replace c0 := (cell_keep (hW3.1.block gb (cell_lt c0)) _).trans c0
        replace c1' := (cell_keep (hW3.1.block gb (cell_lt c1')) _).trans c1'
        replace c2' := (cell_keep (hW3.1.block gb (cell_lt c2')) _).trans c2'
        replace ed := Lib.hid ed
        replace hkl := Lib.hid hkl
        replace hge := Lib.hid hge
        go_wp2_with fail
        refine ihk.mono ?_
        rintro e W4 (⟨rfl, ⟨zs, hz, hJ4⟩, hK4⟩ | ⟨rfl, zs, ⟨rz, hz⟩, hx⟩)
        · have hJ4' : J (pre ++ (ys ++ zs)) W4 := by rw [← List.append_assoc]; exact hJ4
          have hge4 := Lib.hid (show geK (pairsN n) k = (ys ++ zs).map (·.t) ++ geK (sufN n i) k by rw [hge.out, rem_kid hkd, geK_app, List.map_append, hz, List.append_assoc])
          replace hz := Lib.hid hz
          have bn4 := (hKr.trans hK4).tri bn2
          have hW4 := hW2.trans (hKr.trans hK4)
          clear tn0 tn1 tn2 hJ4 ihk
          have tn0 := bn4.cell0
          have tn1 := bn4.cell1
          have tn2 := bn4.cell2
          rcases Nat.lt_or_ge i n.keys.length with hky | hky
          · have d3 : decide ((i : Int) < (n.keys.length : Int)) = true := by simp; omega
            obtain ⟨b1, o1, A, C, rfl, kc, krd⟩ := rk.byt i hky
            replace kc := (cell_keep (hW4.1.block b1 (cell_lt kc)) _).trans kc
            have hsk := Lib.hid (geK_suf (k := k) hp hi1 hky)
            obtain ⟨x, hx⟩ : ∃ x : KeyAt w0, x = ⟨A, C, n.keys[i], by have := hbk _ (List.getElem_mem hky); omega, krd⟩ := ⟨_, rfl⟩
            have hxt : x.t = n.keys[i] := by rw [hx]
            have hyl : YieldAt Fence.wide (m - 1) Try.prog l #[.slice A n.keys[i].length C] W4 fun e W' => (e = .returned (.bool true) ∧ J (pre ++ (ys ++ zs) ++ [x]) W' ∧ KpW w0.heap.size W4 W') ∨ (e = .returned (.bool false) ∧ Jx (pre ++ (ys ++ zs) ++ [x]) W') := by
              have h1 := hY (m - 1) (pre ++ (ys ++ zs)) x W4 hJ4' (by
                have h1 := congrArg List.length hge4.out
                rw [hsk.out] at h1
                simp only [List.length_append, List.length_map, List.length_cons] at h1 ⊢
                omega)
              rw [hx] at h1 ⊢
              exact h1
            replace hxt := Lib.hid hxt
            clear hx
            obtain ⟨fn, tmps, assign, body, hy, hR⟩ := hyl
            go_upto_region 6 with (fail)
            refine (wpIn_wide (n := m)).1 ?_
            gi_wp2
            refine ⟨(fun h => by cases h), hR.mono ?_⟩
            clear hR
            rintro e W5 (⟨rfl, hJ5, hK5⟩ | ⟨rfl, hx5⟩)
            · gi_wp2
              go_wp2_with fail
              go_roundw
              case rel =>
                refine ⟨i + 1, (ys ++ zs) ++ [x], by go_num, by omega, by omega, ?_, by rw [← List.append_assoc]; exact hJ5, (hKr.trans hK4).trans hK5⟩
                rw [hge4.out, hsk.out]
                simp [hxt.out]
              case measure => simp [toN]; omega
            · gi_wp2
              go_wp2_with fail
              go_ret
              exact .inr ⟨rfl, (ys ++ zs) ++ [x], ⟨geK (remN n (i + 1)) k, by rw [hge4.out, hsk.out]; simp [hxt.out]⟩, by rw [← List.append_assoc]; exact hx5⟩
          · have d3 : decide ((i : Int) < (n.keys.length : Int)) = false := by simp; omega
            have hse := Lib.hid (suf_end hsh1.out hky)
            go_wp2_with fail
            go_roundw
            case rel =>
              obtain rfl : i = n.keys.length := by omega
              exact ⟨n.keys.length + 1, ys ++ zs, by go_num, by omega, by omega, by rw [hge4.out, hse.out, rem_done hp], hJ4', hKr.trans hK4⟩
            case measure => simp [toN]; omega
        · replace hz := Lib.hid hz
          go_wp2_with fail
          go_ret
          exact .inr ⟨rfl, ys ++ zs, ⟨rz ++ geK (sufN n i) k, by rw [hge.out, rem_kid hkd, geK_app, hz.out]; simp⟩, by rw [← List.append_assoc]; exact hx⟩
      · have d2 : decide ((i : Int) < (n.kids.length : Int)) = false := by simp; omega
        have h0 : n.kids = [] := by rcases hsh2.out with h | h; exact h; omega
        have hge4 := Lib.hid (show geK (pairsN n) k = ys.map (·.t) ++ geK (sufN n i) k by rw [hge, rem_leaf h0])
        replace h0 := Lib.hid h0
        replace hge := Lib.hid hge
        have bn4 := (hKr).tri bn2
        have hW4 := hW2.trans (hKr)
        clear tn0 tn1 tn2
        have tn0 := bn4.cell0
        have tn1 := bn4.cell1
        have tn2 := bn4.cell2
        rcases Nat.lt_or_ge i n.keys.length with hky | hky
        · have d3 : decide ((i : Int) < (n.keys.length : Int)) = true := by simp; omega
          obtain ⟨b1, o1, A, C, rfl, kc, krd⟩ := rk.byt i hky
          replace kc := (cell_keep (hW4.1.block b1 (cell_lt kc)) _).trans kc
          have hsk := Lib.hid (geK_suf (k := k) hp hi1 hky)
          obtain ⟨x, hx⟩ : ∃ x : KeyAt w0, x = ⟨A, C, n.keys[i], by have := hbk _ (List.getElem_mem hky); omega, krd⟩ := ⟨_, rfl⟩
          have hxt : x.t = n.keys[i] := by rw [hx]
          have hyl : YieldAt Fence.wide (m - 1) Try.prog l #[.slice A n.keys[i].length C] wr fun e W' => (e = .returned (.bool true) ∧ J (pre ++ (ys) ++ [x]) W' ∧ KpW w0.heap.size wr W') ∨ (e = .returned (.bool false) ∧ Jx (pre ++ (ys) ++ [x]) W') := by
            have h1 := hY (m - 1) (pre ++ (ys)) x wr hJr (by
              have h1 := congrArg List.length hge4.out
              rw [hsk.out] at h1
              simp only [List.length_append, List.length_map, List.length_cons] at h1 ⊢
              omega)
            rw [hx] at h1 ⊢
            exact h1
          replace hxt := Lib.hid hxt
          clear hx
          obtain ⟨fn, tmps, assign, body, hy, hR⟩ := hyl
          go_upto_region 6 with (fail)
          refine (wpIn_wide (n := m)).1 ?_
          gi_wp2
          refine ⟨(fun h => by cases h), hR.mono ?_⟩
          clear hR
          rintro e W5 (⟨rfl, hJ5, hK5⟩ | ⟨rfl, hx5⟩)
          · gi_wp2
            go_wp2_with fail
            go_roundw
            case rel =>
              refine ⟨i + 1, (ys) ++ [x], by go_num, by omega, by omega, ?_, by rw [← List.append_assoc]; exact hJ5, (hKr).trans hK5⟩
              rw [hge4.out, hsk.out]
              simp [hxt.out]
            case measure => simp [toN]; omega
          · gi_wp2
            go_wp2_with fail
            go_ret
            exact .inr ⟨rfl, ys ++ [x], ⟨geK (remN n (i + 1)) k, by rw [hge4.out, hsk.out]; simp [hxt.out]⟩, by rw [← List.append_assoc]; exact hx5⟩
        · have d3 : decide ((i : Int) < (n.keys.length : Int)) = false := by simp; omega
          have hse := Lib.hid (suf_end hsh1.out hky)
          go_wp2_with fail
          go_roundw
          case rel =>
            obtain rfl : i = n.keys.length := by omega
            exact ⟨n.keys.length + 1, ys, by go_num, by omega, by omega, by rw [hge4.out, hse.out, rem_done hp], hJr, hKr⟩
          case measure => simp [toN]; omega
end Go.Proofs.Yticngbgjfdcnhaa
namespace Go.Proofs.Yticngbgjfdcnhaa
open Go.RowKit Go.Shelf
attribute [local go_sem] Oper.semAt_some
theorem walk_any (l : Nat) {w0 : World} {J Jx : List (KeyAt w0) → World → Prop} {k : List UInt8} {N B : Nat} (hAb : AbidesFrom B J)
    (hY : ∀ m pre x W, J pre W → pre.length < N → YieldAt Fence.wide m Try.prog l x.enc W fun e W' => (e = .returned (.bool true) ∧ J (pre ++ [x]) W' ∧ KpW w0.heap.size W W') ∨ (e = .returned (.bool false) ∧ Jx (pre ++ [x]) W'))
    (d : Nat) : WalkAt l J Jx k N d := Nat.strongRecOn d fun _ ih => walk_step l hAb hY ih
set_option maxRecDepth 100000 in
set_option maxHeartbeats 2000000 in
theorem from1_in (l : Nat) {w0 : World} {J Jx : List (KeyAt w0) → World → Prop} {n : Nd} {k : List UInt8} {a : Option Addr} {c N B nb kb : Nat} {x y z : Value} (hr : RdN (· < w0.heap.size) w0 (.agg #[x, y, z]) n) (hf : fitN n) (hk : RdS (· < w0.heap.size) w0 (.slice a k.length c) k) (hAb : AbidesFrom B J)
    (hY : ∀ pre x W, J pre W → pre.length < N → YieldAt Fence.wide 1 Try.prog l x.enc W fun e W' => (e = .returned (.bool true) ∧ J (pre ++ [x]) W' ∧ KpW w0.heap.size W W') ∨ (e = .returned (.bool false) ∧ Jx (pre ++ [x]) W'))
    (W : World) (hW : Below w0.heap.size w0 W) (hnb : TriV W nb 28 x y z) (hkb : W.cell? ⟨kb, 0, none⟩ = some (.slice a k.length c)) (h0 : J [] W) (hN : (geK (prN n) k).length ≤ N) :
    CallsIn Fence.wide 2 Try.prog 46 #[.func (.yield l) #[] #[], .pointer (some ⟨nb, 0, none⟩), .pointer (some ⟨kb, 0, none⟩)] W fun e W' => (∃ v, e = .returned v) ∧ ((∃ ys : List (KeyAt w0), ys.map (·.t) = geK (prN n) k ∧ J ys W') ∨ (∃ pre, PreK (geK (prN n) k) pre ∧ Jx pre W')) := by
  have hr0 := hr
  obtain ⟨a1, c1, a2, c2, a3, c3, eqv, _, _, _⟩ := hr
  injection eqv with eqv
  injection eqv with eqv
  injection eqv with ex eqv
  injection eqv with ey eqv
  injection eqv with ez _
  subst ex ey ez
  have hwn : wN n ≤ 1000000 := by have := hf.1; omega
  have hch := tCheck_any W (rdN_to hr0 hW) hwn
  have tn0 := hnb.cell0
  have tn1 := hnb.cell1
  have tn2 := hnb.cell2
  refine callsIn_of_wp Try.func46 rfl trivial ?_ rfl
  simp only [Try.ntmps46, List.size_toArray, List.length_cons, List.length_nil, Nat.reduceAdd, Nat.reduceSub, Array.replicate_succ, Array.replicate_zero, List.push_toArray, List.append_toArray, List.nil_append, List.cons_append]
  refine wpIn_wide.2 ?_
  by_cases hok : okN n
  · obtain ⟨d, hpn⟩ := ok_pn hok
    rw [decide_eq_true hok] at hch
    have hpr : prN n = pairsN n := by unfold prN; rw [if_pos hok]
    rw [hpr] at hN ⊢
    replace hpr := Lib.hid hpr
    go_wp2_with fail
    refine hch.mono ?_
    rintro e W1 ⟨rfl, hb1⟩
    have bn1 := hnb.below hb1 hnb.lt
    have hkb1 := (hb1.cell (p := ⟨kb, 0, none⟩) (cell_lt hkb)).trans hkb
    clear tn0 tn1 tn2 hch hnb hkb
    have tn0 := bn1.cell0
    have tn1 := bn1.cell1
    have tn2 := bn1.cell2
    have hJ1 : J [] W1 := hAb _ _ _ none h0 (grown_below hb1) (by simp)
    have hwk := (callsIn_wide (n := 1)).1 (walk_any l hAb (fun m pre x W h1 h2 => yield_any m (hY pre x W h1 h2)) d n 1 _ a c [] W1 hpn hf.2 hr0 (KpW.of (hW.trans (hb1.mono hW.size)) (Nat.le_refl _)) hk hJ1 (by simpa using hN))
    go_wp2_with fail
    refine hwk.mono ?_
    rintro e W2 (⟨rfl, ⟨ys, hys, hJ2⟩, _⟩ | ⟨rfl, ys, hpk, hx⟩)
    · go_wp2_with fail
      go_end0
      exact ⟨⟨_, rfl⟩, .inl ⟨ys, hys, by simpa using hJ2⟩⟩
    · go_wp2_with fail
      go_end0
      exact ⟨⟨_, rfl⟩, .inr ⟨_, hpk, hx⟩⟩
  · rw [decide_eq_false hok] at hch
    have hpr : prN n = [] := by unfold prN; rw [if_neg hok]
    rw [hpr]
    replace hpr := Lib.hid hpr
    go_wp2_with fail
    refine hch.mono ?_
    rintro e W1 ⟨rfl, hb1⟩
    have hJ1 : J [] W1 := hAb _ _ _ none h0 (grown_below hb1) (by simp)
    go_wp2_with fail
    go_end0
    exact ⟨⟨_, rfl⟩, .inl ⟨[], rfl, hJ1⟩⟩
theorem from_stops {w0 w : World} {n : Nd} {k : List UInt8} {a : Option Addr} {c N nb kb : Nat} {x y z : Value} (hr : RdN (· < w0.heap.size) w0 (.agg #[x, y, z]) n) (hf : fitN n) (hk : RdS (· < w0.heap.size) w0 (.slice a k.length c) k) (hw : Below w0.heap.size w0 w)
    (hnb : TriV w nb 28 x y z) (hkb : w.cell? ⟨kb, 0, none⟩ = some (.slice a k.length c)) (hN : (geK (prN n) k).length ≤ N) :
    SeqStopsK Fence.wide 2 Try.prog 46 #[.pointer (some ⟨nb, 0, none⟩), .pointer (some ⟨kb, 0, none⟩)] KeyAt.enc (KpW w0.heap.size) (fun ys : List (KeyAt w0) => ys.map (·.t) = geK (prN n) k) (PreK (geK (prN n) k)) N w := fun l _ _ W hW hAb _ hY h0 =>
  from1_in l hr hf hk hAb hY W (hw.trans (hW.mono hw.size)) (hnb.below hW hnb.lt) ((hW.cell (p := ⟨kb, 0, none⟩) (cell_lt hkb)).trans hkb) h0 hN
set_option maxRecDepth 100000 in
theorem from_any (w : World) (x y z : Value) (a : Option Addr) (m c : Nat) :
    Calls Try.prog 27 #[.agg #[x, y, z], .slice a m c] w fun e w' => e = .returned (.func (.func 46) #[] #[.pointer (some ⟨w.heap.size, 0, none⟩), .pointer (some ⟨w.heap.size + 1, 0, none⟩)]) ∧
      w' = (w.alloc (.cells #[x, y, z] 28)).alloc (.cells #[.slice a m c] 32) := by
  go_enter Try.func27, Try.ntmps27
  go_wp2
  go_ret
  exact ⟨rfl, rfl⟩
end Go.Proofs.Yticngbgjfdcnhaa
