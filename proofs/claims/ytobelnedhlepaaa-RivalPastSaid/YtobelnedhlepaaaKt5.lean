/-
  TEXTS OF ONE PROOF, merged: RvG, RvO, DltC, DltS, RpD.
-/
import Derived.Test.YtobelnedhlepaaaKt4
namespace Go.Proofs.Ytobelnedhlepaaa
open Go.ChangeShapes Go.WideShapes Go.ChangeAt Go.RowKit Go.Deep Go.Joins Go.Shelf
structure Ot where
  back : Int
  held : Bool
  reads : List Sp
  writes : List Wr
  known : Int
def okO (x : Ot) : Prop := 0 ≤ x.back ∧ x.back < 256 ∧ 0 ≤ x.known ∧ x.known < 256
def Elt.one14 : Elt Ot where
  size := 5
  pos := by omega
  R S w x vs := ∃ k v, vs = [.int .u8 x.back, .bool x.held, k, v, .int .u8 x.known] ∧ RdL Elt.sp S w k x.reads ∧ RdL Elt.wr S w v x.writes ∧ okO x
  len := by rintro _ _ _ _ ⟨_, _, rfl, _⟩; rfl
  keep := by rintro _ _ _ _ _ ⟨k, v, rfl, h, h1, h2⟩ hk; exact ⟨k, v, rfl, h.keep hk, h1.keep hk, h2⟩
  weak := by rintro _ _ _ _ _ ⟨k, v, rfl, h, h1, h2⟩ hk; exact ⟨k, v, rfl, h.weak hk, h1.weak hk, h2⟩
  fit := by rintro _ _ _ _ ⟨k, v, rfl, h, h1, h2⟩; exact ⟨k, v, rfl, h.fit, h1.fit, h2⟩
  one := by
    rintro _ _ _ _ ⟨k, v, rfl, h, h1, _⟩ u hu
    obtain ⟨_, _, rfl, _⟩ := h.shape
    obtain ⟨_, _, rfl, _⟩ := h1.shape
    simp only [List.mem_cons, List.not_mem_nil, or_false] at hu
    rcases hu with rfl | rfl | rfl | rfl | rfl <;> rfl
theorem otS : StP Try.prog 43 5 := StP.of (by kernel_rfl)
theorem RdL.ot {S : Nat → Prop} {w : World} {a : Option Addr} {n c : Nat} {l : List Ot} (h : RdL Elt.one14 S w (.slice a n c) l) (r : Nat) (hr : r < l.length) :
    ∃ b off A C A2 C2, a = some ⟨b, off, none⟩ ∧ S b ∧ (w.cell? ⟨b, off + r * 5, none⟩ = some (.int .u8 l[r].back) ∧ w.cell? ⟨b, off + r * 5 + 1, none⟩ = some (.bool l[r].held) ∧ w.cell? ⟨b, off + r * 5 + 2, none⟩ = some (.slice A l[r].reads.length C) ∧ w.cell? ⟨b, off + r * 5 + 3, none⟩ = some (.slice A2 l[r].writes.length C2) ∧ w.cell? ⟨b, off + r * 5 + 4, none⟩ = some (.int .u8 l[r].known)) ∧
      RdL Elt.sp S w (.slice A l[r].reads.length C) l[r].reads ∧ RdL Elt.wr S w (.slice A2 l[r].writes.length C2) l[r].writes ∧ okO l[r] := by
  obtain ⟨b, off, vs, rfl, hb, ⟨k, u, rfl, hk, hu, hi⟩, hc⟩ := h.at r hr
  obtain ⟨A, C, rfl, _, _⟩ := hk.shape
  obtain ⟨A2, C2, rfl, _, _⟩ := hu.shape
  exact ⟨b, off, A, C, A2, C2, rfl, hb, ⟨hc 0 _ rfl, hc 1 _ rfl, hc 2 _ rfl, hc 3 _ rfl, hc 4 _ rfl⟩, hk, hu, hi⟩
structure Judges : Prop where
  call : ∀ (w : World) {S S2 S3 S4 : Nat → Prop} {v : Value} {me : Lv} {a a2 a3 : Option Addr} {n cx n2 cy n3 cz : Nat} {ws : List Wr} {l : List Ps} {lv : List Lv}, RdLv S w v me → RdL Elt.wr S2 w (.slice a n cx) ws → RdL Elt.ps S3 w (.slice a2 n2 cy) l → RdL Elt.lv S4 w (.slice a3 n3 cz) lv →
    smP ⟨0, 0, false, me.reads, ws, false⟩ → smPs l → lv.length ≤ 1000000 → (∀ x ∈ lv, smL x.reads) →
    Calls Try.prog 12 #[v, .slice a n cx, .slice a2 n2 cy, .slice a3 n3 cz] w fun e w' => e = .returned (.tuple #[.bool (judgeP me ws l lv).1, .int .i64 ((judgeP me ws l lv).2 : Int)]) ∧ Below w.heap.size w w'
theorem modO (x : Int) (n : Nat) : 0 ≤ x % ((n : Int) + 1) ∧ x % ((n : Int) + 1) ≤ n := by
  have h1 := Int.emod_lt_of_pos x (b := (n : Int) + 1) (by omega)
  have h2 := Int.emod_nonneg x (b := (n : Int) + 1) (by omega)
  omega
theorem run_buildLv1 (w : World) (a : Option Addr) (n c : Nat) : (Instr.build 24 #[(1, .slice a n c)]).run Try.prog w = .ok (.agg #[.int .i64 0, .slice a n c]) w := by kernel_rfl
theorem wp_buildPs {o : Oper} {a : Act} {K : Act → World → Prop} {Q : Exit → Act → World → Prop} {w : World} {x0 x1 x2 x3 x4 x5 : Operand} {s t : Int} {h u : Bool} {A B : Option Addr} {n c n2 c2 : Nat} (ho : o.op = .build 50 #[(0, x0), (1, x1), (2, x2), (3, x3), (4, x4), (5, x5)])
    (h0 : a.eval x0 = .int .i64 s) (h1 : a.eval x1 = .int .i64 t) (h2 : a.eval x2 = .bool h) (h3 : a.eval x3 = .slice A n c) (h4 : a.eval x4 = .slice B n2 c2) (h5 : a.eval x5 = .bool u) (hK : K (a.put o.dst (.agg #[.int .i64 s, .int .i64 t, .bool h, .slice A n c, .slice B n2 c2, .bool u])) w) : o.wp Try.prog a w K Q := by
  refine wp_run' ?_ hK
  simp only [execOp, ho, List.map_toArray, List.map_cons, List.map_nil, h0, h1, h2, h3, h4, h5]
  simp [go_sem]
attribute [local go_sem] run_buildLv1
set_option maxRecDepth 100000 in
set_option maxHeartbeats 16000000 in
theorem committed_any (hJ : Judges) (w : World) {S : Nat → Prop} {a : Option Addr} {n cx : Nat} {l : List Ot} (hl : RdL Elt.one14 S w (.slice a n cx) l) (hsm : ∀ x ∈ l, smP ⟨0, 0, false, x.reads, x.writes, false⟩) (hn : l.length ≤ 1000) :
    Calls Try.prog 17 #[.slice a n cx] w fun e w' => ∃ (P : List Ps) (ad : Option Addr) (c : Nat), e = .returned (.slice ad P.length c) ∧ GoodP P ∧ P.length ≤ l.length ∧ RdL Elt.ps (fun _ => True) w' (.slice ad P.length c) P ∧ Below w.heap.size w w' := by
  obtain ⟨rfl, hnc, hcm⟩ := hl.len
  replace hl := hl.fit
  have q := Below.refl w.heap.size w
  have eJ : ∀ args w, (callFunc 12 args).run Try.prog w = .ok (.enter 12 args) w := enters_of Try.func12 (by kernel_rfl) rfl
  clear hnc hcm
  replace hsm := Lib.hid hsm
  go_enter Try.func17, Try.ntmps17
  go_upto_region 3 with (fail)
  go_loopw [3, 4] (fun pv iv wr => ∃ (i : Nat) (P : List Ps) (ad : Option Addr) (ko : Nat), iv = .int .i64 i ∧ i ≤ l.length ∧ pv = .slice ad P.length ko ∧ OwnL Elt.ps 50 w.heap.size 0 wr (.slice ad P.length ko) P ∧ GoodP P ∧ (∀ p ∈ P, smP p) ∧ P.length ≤ i ∧ Below w.heap.size w wr) (fun _ i _ => l.length - (intOf i).toNat)
  case atStart => exact ⟨0, [], none, 0, rfl, Nat.zero_le _, rfl, OwnL.nil _ _ _ _ _, GoodP.nil, (fun _ h => by cases h), Nat.le_refl _, q⟩
  case round =>
    clear q
    obtain ⟨i, P, ad, ko, rfl, hil, rfl, hO, hG, hPs, hPi, q⟩ := hrel
    replace hG := Lib.hid hG
    replace hPs := Lib.hid hPs
    rcases Nat.lt_or_ge i l.length with hlt | hge
    · have di : decide ((i : Int) < (l.length : Int)) = true := decide_eq_true (by omega)
      obtain ⟨b1, o1, A1, A2, A3, A4, rfl, hbS, ⟨c0, c1, c2, c3, _⟩, hk1, hk2, hok⟩ := (hl.below q).ot i hlt
      have hx := Lib.hid (hsm.out _ (List.getElem_mem hlt))
      obtain ⟨x, ex⟩ : ∃ x, x = l[i] := ⟨_, rfl⟩
      rw [← ex] at c0 c1 c2 c3 hk1 hk2 hok hx
      clear ex
      obtain ⟨hsl1, hsl2⟩ := modO x.back P.length
      have hback1 := hok.1
      have hback2 := hok.2.1
      obtain ⟨hb8, ehb⟩ : ∃ b, b = x.held := ⟨_, rfl⟩
      rw [← ehb] at c1
      go_upto_region 7 with (fail)
      clear di
      obtain ⟨sn, esn⟩ : ∃ sn, sn = (P.length : Int) - x.back % ((P.length : Int) + 1) := ⟨_, rfl⟩
      rw [← esn]
      have hs1 : 0 ≤ sn := by omega
      have hs2 : sn ≤ P.length := by omega
      clear esn hsl1 hsl2 hback1 hback2 c0
      have hsw : W64 sn := by unfold W64; omega
      clear ehb
      cases hb8 with
      | true =>
        go_upto_region 20 with (fail)
        have hrr : ∀ k, Value.ownBlock (.slice ad P.length ko) = some k → w.heap.size ≤ k ∧ k < wr.heap.size := fun k hk => hO.block_lt k hk
        have hrW : ∀ k, Value.ownBlock (.slice ad P.length ko) = some k → k < wr.heap.size := fun k hk => (hrr k hk).2
        have hS : ∀ k, (fun k => k < w.heap.size) k → some k ≠ Value.ownBlock (.slice ad P.length ko) := fun k h e => by have := (hrr k e.symm).1; have h2 : k < w.heap.size := h; omega
        have hrS : ∀ k, Value.ownBlock (.slice ad P.length ko) = some k → ¬ (S k ∧ k < w.heap.size) := fun k hk h2 => by have := hrr k hk; omega
        have hbW : b1 < wr.heap.size := cell_lt c1
        have hbr : some b1 ≠ Value.ownBlock (.slice ad P.length ko) := fun e => by have := hrr b1 e.symm; have := hbS.2; omega
        have hbase : w.heap.size ≤ wr.heap.size := q.size
        refine wp_region_lnl (K := fun A B => A.grownBy B (Value.ownBlock (.slice ad P.length ko))) (by kernel_rfl) (by kernel_rfl) [21, 22] (by kernel_rfl) [lEq (.slice ad P.length ko), lEq (.int .i64 (P.length : Int)), lEq (.int .i64 ((P.length : Int) + 1)), lEq (.slice (some ⟨b1, o1, none⟩) l.length cx), lEq (.int .i64 (i : Int)), lEq (.pointer (some ⟨b1, o1 + i * 5, none⟩)), lEq (.pointer (some ⟨b1, o1 + i * 5 + 1, none⟩)), lEq (.bool true), lEq (.slice (some ⟨b1, o1, none⟩) l.length cx), lEq (.int .i64 (i : Int)), lEq (.pointer (some ⟨b1, o1 + i * 5, none⟩)), lEq (.pointer (some ⟨b1, o1 + i * 5 + 2, none⟩)), lEq (.slice A1 x.reads.length A2), lEq (.slice (some ⟨b1, o1, none⟩) l.length cx), lEq (.int .i64 (i : Int)), lEq (.pointer (some ⟨b1, o1 + i * 5, none⟩)), lEq (.pointer (some ⟨b1, o1 + i * 5 + 3, none⟩)), lEq (.slice A3 x.writes.length A4), lEq (.bool false), aElt Elt.ps (wr) (Value.ownBlock (.slice ad P.length ko)) (fun k => k < w.heap.size) ((⟨(P.length : Int), (P.length : Int) + 1, true, x.reads, x.writes, false⟩ : Ps)) hrW hS, aRow Elt.ps 50 (wr) (Value.ownBlock (.slice ad P.length ko)) (fun k => k < w.heap.size) ((⟨(P.length : Int), (P.length : Int) + 1, true, x.reads, x.writes, false⟩ : Ps)) hrW hS, lAny, lAny] (ApJ Elt.ps 50 (w.heap.size) (0) (Value.ownBlock (.slice ad P.length ko)) (wr) (P) [(⟨(P.length : Int), (P.length : Int) + 1, true, x.reads, x.writes, false⟩ : Ps)]) ApJ.below (show Below (wr).heap.size (wr) (wr) from Below.refl _ _)
          ⟨?o0, ?o1, ?o2, ?o3, ?o4, ?o5, ?o6, ?o7, ?o8, ?o9, ?o10, ?o11, ?o12, ?o13, ?o14, ?o15, ?o16, ?o17, ?o18, ?o19, ?o20, ?o21, ?o22, trivial⟩ ?fin
        case o0 =>
          refine LnOp.side rfl (by kernel_rfl) (fun A va w' k hF hT hk hJ hb hu hp hd => ?_)
          have e1 : A.eval (.tmp 3) = .slice ad P.length ko := (hT 3 22 (by simp) rfl).trans (hu 1 22 3 (hb 1 22 rfl (by kernel_rfl)) rfl rfl)
          exact BigFrame.wp_move _ rfl ⟨_, rfl, e1, Below.refl _ _⟩
        case o1 =>
          refine LnOp.side rfl (by kernel_rfl) (fun A va w' k hF hT hk hJ hb hu hp hd => ?_)
          have e1 : A.eval (.tmp 6) = .int .i64 (P.length : Int) := hF 6 rfl
          exact BigFrame.wp_move _ rfl ⟨_, rfl, e1, Below.refl _ _⟩
        case o2 =>
          refine LnOp.side rfl (by kernel_rfl) (fun A va w' k hF hT hk hJ hb hu hp hd => ?_)
          have e1 : A.eval (.tmp 5) = .int .i64 ((P.length : Int) + 1) := hF 5 rfl
          exact BigFrame.wp_move _ rfl ⟨_, rfl, e1, Below.refl _ _⟩
        case o3 =>
          refine LnOp.side rfl (by kernel_rfl) (fun A va w' k hF hT hk hJ hb hu hp hd => ?_)
          have e1 : A.eval (.tmp 0) = .slice (some ⟨b1, o1, none⟩) l.length cx := hF 0 rfl
          exact BigFrame.wp_move _ rfl ⟨_, rfl, e1, Below.refl _ _⟩
        case o4 =>
          refine LnOp.side rfl (by kernel_rfl) (fun A va w' k hF hT hk hJ hb hu hp hd => ?_)
          have e1 : A.eval (.tmp 4) = .int .i64 (i : Int) := hF 4 rfl
          exact BigFrame.wp_move _ rfl ⟨_, rfl, e1, Below.refl _ _⟩
        case o5 =>
          refine LnOp.side rfl (by kernel_rfl) (fun A va w' k hF hT hk hJ hb hu hp hd => ?_)
          have e1 : A.eval (.tmp 103) = .slice (some ⟨b1, o1, none⟩) l.length cx := (hT 103 3 (by simp) rfl).trans (hd ⟨3, .data⟩ (by simp) rfl rfl)
          have e2 : A.eval (.tmp 104) = .int .i64 (i : Int) := (hT 104 4 (by simp) rfl).trans (hd ⟨4, .data⟩ (by simp) rfl rfl)
          exact wp_ixN (e := 43) rfl (by kernel_rfl) (by kernel_rfl) (e1) (e2) rfl (by omega) ⟨_, rfl, rfl, Below.refl _ _⟩
        case o6 =>
          refine LnOp.side rfl (by kernel_rfl) (fun A va w' k hF hT hk hJ hb hu hp hd => ?_)
          have e1 : A.eval (.tmp 105) = .pointer (some ⟨b1, o1 + i * 5, none⟩) := (hT 105 5 (by simp) rfl).trans (hd ⟨5, .data⟩ (by simp) rfl rfl)
          exact wp_fieldN otS rfl (e1) (by omega) ⟨_, rfl, rfl, Below.refl _ _⟩
        case o7 =>
          refine LnOp.side rfl (by kernel_rfl) (fun A va w' k hF hT hk hJ hb hu hp hd => ?_)
          have e1 : A.eval (.tmp 106) = .pointer (some ⟨b1, o1 + i * 5 + 1, none⟩) := (hT 106 6 (by simp) rfl).trans (hd ⟨6, .data⟩ (by simp) rfl rfl)
          have hJg : (wr).grownBy w' (Value.ownBlock (.slice ad P.length ko)) := ApJ.grown hJ
          have c9 := (cell_keep (hJg.block b1 hbW hbr) _).trans c1
          exact wp_ld_bool rfl e1 (by kernel_rfl) c9 ⟨_, rfl, rfl, Below.refl _ _⟩
        case o8 =>
          refine LnOp.side rfl (by kernel_rfl) (fun A va w' k hF hT hk hJ hb hu hp hd => ?_)
          have e1 : A.eval (.tmp 0) = .slice (some ⟨b1, o1, none⟩) l.length cx := hF 0 rfl
          exact BigFrame.wp_move _ rfl ⟨_, rfl, e1, Below.refl _ _⟩
        case o9 =>
          refine LnOp.side rfl (by kernel_rfl) (fun A va w' k hF hT hk hJ hb hu hp hd => ?_)
          have e1 : A.eval (.tmp 4) = .int .i64 (i : Int) := hF 4 rfl
          exact BigFrame.wp_move _ rfl ⟨_, rfl, e1, Below.refl _ _⟩
        case o10 =>
          refine LnOp.side rfl (by kernel_rfl) (fun A va w' k hF hT hk hJ hb hu hp hd => ?_)
          have e1 : A.eval (.tmp 108) = .slice (some ⟨b1, o1, none⟩) l.length cx := (hT 108 8 (by simp) rfl).trans (hd ⟨8, .data⟩ (by simp) rfl rfl)
          have e2 : A.eval (.tmp 109) = .int .i64 (i : Int) := (hT 109 9 (by simp) rfl).trans (hd ⟨9, .data⟩ (by simp) rfl rfl)
          exact wp_ixN (e := 43) rfl (by kernel_rfl) (by kernel_rfl) (e1) (e2) rfl (by omega) ⟨_, rfl, rfl, Below.refl _ _⟩
        case o11 =>
          refine LnOp.side rfl (by kernel_rfl) (fun A va w' k hF hT hk hJ hb hu hp hd => ?_)
          have e1 : A.eval (.tmp 110) = .pointer (some ⟨b1, o1 + i * 5, none⟩) := (hT 110 10 (by simp) rfl).trans (hd ⟨10, .data⟩ (by simp) rfl rfl)
          exact wp_fieldN otS rfl (e1) (by omega) ⟨_, rfl, rfl, Below.refl _ _⟩
        case o12 =>
          refine LnOp.side rfl (by kernel_rfl) (fun A va w' k hF hT hk hJ hb hu hp hd => ?_)
          have e1 : A.eval (.tmp 111) = .pointer (some ⟨b1, o1 + i * 5 + 2, none⟩) := (hT 111 11 (by simp) rfl).trans (hd ⟨11, .data⟩ (by simp) rfl rfl)
          have hJg : (wr).grownBy w' (Value.ownBlock (.slice ad P.length ko)) := ApJ.grown hJ
          have c9 := (cell_keep (hJg.block b1 hbW hbr) _).trans c2
          exact wp_ld_slice (e := 57) rfl e1 (by kernel_rfl) c9 ⟨_, rfl, rfl, Below.refl _ _⟩
        case o13 =>
          refine LnOp.side rfl (by kernel_rfl) (fun A va w' k hF hT hk hJ hb hu hp hd => ?_)
          have e1 : A.eval (.tmp 0) = .slice (some ⟨b1, o1, none⟩) l.length cx := hF 0 rfl
          exact BigFrame.wp_move _ rfl ⟨_, rfl, e1, Below.refl _ _⟩
        case o14 =>
          refine LnOp.side rfl (by kernel_rfl) (fun A va w' k hF hT hk hJ hb hu hp hd => ?_)
          have e1 : A.eval (.tmp 4) = .int .i64 (i : Int) := hF 4 rfl
          exact BigFrame.wp_move _ rfl ⟨_, rfl, e1, Below.refl _ _⟩
        case o15 =>
          refine LnOp.side rfl (by kernel_rfl) (fun A va w' k hF hT hk hJ hb hu hp hd => ?_)
          have e1 : A.eval (.tmp 113) = .slice (some ⟨b1, o1, none⟩) l.length cx := (hT 113 13 (by simp) rfl).trans (hd ⟨13, .data⟩ (by simp) rfl rfl)
          have e2 : A.eval (.tmp 114) = .int .i64 (i : Int) := (hT 114 14 (by simp) rfl).trans (hd ⟨14, .data⟩ (by simp) rfl rfl)
          exact wp_ixN (e := 43) rfl (by kernel_rfl) (by kernel_rfl) (e1) (e2) rfl (by omega) ⟨_, rfl, rfl, Below.refl _ _⟩
        case o16 =>
          refine LnOp.side rfl (by kernel_rfl) (fun A va w' k hF hT hk hJ hb hu hp hd => ?_)
          have e1 : A.eval (.tmp 115) = .pointer (some ⟨b1, o1 + i * 5, none⟩) := (hT 115 15 (by simp) rfl).trans (hd ⟨15, .data⟩ (by simp) rfl rfl)
          exact wp_fieldN otS rfl (e1) (by omega) ⟨_, rfl, rfl, Below.refl _ _⟩
        case o17 =>
          refine LnOp.side rfl (by kernel_rfl) (fun A va w' k hF hT hk hJ hb hu hp hd => ?_)
          have e1 : A.eval (.tmp 116) = .pointer (some ⟨b1, o1 + i * 5 + 3, none⟩) := (hT 116 16 (by simp) rfl).trans (hd ⟨16, .data⟩ (by simp) rfl rfl)
          have hJg : (wr).grownBy w' (Value.ownBlock (.slice ad P.length ko)) := ApJ.grown hJ
          have c9 := (cell_keep (hJg.block b1 hbW hbr) _).trans c3
          exact wp_ld_slice (e := 59) rfl e1 (by kernel_rfl) c9 ⟨_, rfl, rfl, Below.refl _ _⟩
        case o18 =>
          refine LnOp.side rfl (by kernel_rfl) (fun A va w' k hF hT hk hJ hb hu hp hd => ?_)
          have e1 : A.eval (.tmp 7) = .bool false := hF 7 rfl
          exact BigFrame.wp_move _ rfl ⟨_, rfl, e1, Below.refl _ _⟩
        case o19 =>
          refine LnOp.side rfl (by kernel_rfl) (fun A va w' k hF hT hk hJ hb hu hp hd => ?_)
          have e1 : A.eval (.tmp 101) = .int .i64 (P.length : Int) := (hT 101 1 (by simp) rfl).trans (hd ⟨1, .data⟩ (by simp) rfl rfl)
          have e2 : A.eval (.tmp 102) = .int .i64 ((P.length : Int) + 1) := (hT 102 2 (by simp) rfl).trans (hd ⟨2, .data⟩ (by simp) rfl rfl)
          have e3 : A.eval (.tmp 107) = .bool true := (hT 107 7 (by simp) rfl).trans (hd ⟨7, .data⟩ (by simp) rfl rfl)
          have e4 : A.eval (.tmp 112) = .slice A1 x.reads.length A2 := (hT 112 12 (by simp) rfl).trans (hd ⟨12, .data⟩ (by simp) rfl rfl)
          have e5 : A.eval (.tmp 117) = .slice A3 x.writes.length A4 := (hT 117 17 (by simp) rfl).trans (hd ⟨17, .data⟩ (by simp) rfl rfl)
          have e6 : A.eval (.tmp 118) = .bool false := (hT 118 18 (by simp) rfl).trans (hd ⟨18, .data⟩ (by simp) rfl rfl)
          have hJg : (wr).grownBy w' (Value.ownBlock (.slice ad P.length ko)) := ApJ.grown hJ
          have hJs := hJg.size
          exact wp_buildPs rfl e1 e2 e3 e4 e5 e6 ⟨_, rfl, ⟨_, rfl, ⟨_, _, rfl, (hk1.grownR hJg hrS).weak fun k hk => ⟨.inl hk.2, by have := hk.2; omega⟩, (hk2.grownR hJg hrS).weak fun k hk => ⟨.inl hk.2, by have := hk.2; omega⟩, (show W64 (P.length : Int) by unfold W64; omega), show W64 ((P.length : Int) + 1) by unfold W64; omega⟩⟩, Below.refl _ _⟩
        case o20 =>
          refine LnOp.side rfl (by kernel_rfl) (fun A va w' k hF hT hk hJ hb hu hp hd => ?_)
          have x1 : A.eval (.tmp 119) = va 19 := hT 119 19 (by simp) rfl
          have y1 := hd ⟨19, .data⟩ (by simp) rfl rfl
          obtain rfl : k = 0 := by have := hb 0 21 rfl (by kernel_rfl); omega
          have hJ0 : Below (wr).heap.size (wr) w' := hJ
          obtain ⟨us, eus, hR⟩ : ∃ us : List Value, (va 19).cells = us.toArray ∧ Elt.R Elt.ps (inNew (fun k => k < w.heap.size) (wr) w') w' ((⟨(P.length : Int), (P.length : Int) + 1, true, x.reads, x.writes, false⟩ : Ps)) us := y1
          exact wp_buildOne psP rfl x1 eus (Elt.len _ hR) (by decide) (by decide) ⟨_, rfl, aRow.mk (hr := hrW) (hS := hS) hJ0.size hR, (Below.refl _ _).alloc (Nat.le_refl _) _⟩
        case o21 =>
          refine LnOp.line 0 rfl rfl (fun A va w' hF hT hJ hu hd => ?_)
          have e1 : A.eval (.tmp 100) = .slice ad P.length ko := (hT 100 0 (by simp) rfl).trans (hd ⟨0, .data⟩ (by simp) rfl rfl)
          have x2 : A.eval (.tmp 120) = va 20 := hT 120 20 (by simp) rfl
          have y2 := hd ⟨20, .data⟩ (by simp) rfl rfl
          exact wp_apv (hr := hrW) (hS := hS) psP hJ rfl e1 x2 hO rfl y2 (fun _ _ => Nat.zero_le _) (Nat.zero_le _) hbase (by omega) (fun v' V' h1 h2 => ⟨_, rfl, h1, h2⟩)
        case o22 =>
          refine LnOp.line 1 rfl rfl (fun A va w' hF hT hJ hu hd => ?_)
          have x1 : A.eval (.tmp 121) = va 21 := hT 121 21 (by simp) rfl
          have hJ' : ApJ Elt.ps 50 (w.heap.size) (0) (Value.ownBlock (.slice ad P.length ko)) (wr) (P) [(⟨(P.length : Int), (P.length : Int) + 1, true, x.reads, x.writes, false⟩ : Ps)] [va 21, A.eval (.tmp 121)] w' := ⟨fun u hu => by obtain rfl := List.mem_singleton.1 hu; exact x1, hJ.2⟩
          exact BigFrame.wp_assign _ rfl ⟨_, rfl, hJ', grownB (Below.refl _ _) _⟩
        case fin =>
          intro vs1 W9 hJ hG
          obtain ⟨hsame, hg9, ad9, c9, e9, hO9⟩ := hJ
          have ea := hsame _ (List.mem_singleton.2 rfl)
          obtain ⟨L9, hL9⟩ : ∃ L9, L9 = (P ++ [(⟨(P.length : Int), (P.length : Int) + 1, true, x.reads, x.writes, false⟩ : Ps)]).length := ⟨_, rfl⟩
          rw [← hL9] at e9 hO9
          replace hL9 := Lib.hid hL9
          have g0 : vs1 0 = .slice ad P.length ko := hG 0 (by decide) rfl
          have g1 : vs1 1 = .int .i64 (P.length : Int) := hG 1 (by decide) rfl
          have g2 : vs1 2 = .int .i64 ((P.length : Int) + 1) := hG 2 (by decide) rfl
          have g3 : vs1 3 = .slice (some ⟨b1, o1, none⟩) l.length cx := hG 3 (by decide) rfl
          have g4 : vs1 4 = .int .i64 (i : Int) := hG 4 (by decide) rfl
          have g5 : vs1 5 = .pointer (some ⟨b1, o1 + i * 5, none⟩) := hG 5 (by decide) rfl
          have g6 : vs1 6 = .pointer (some ⟨b1, o1 + i * 5 + 1, none⟩) := hG 6 (by decide) rfl
          have g7 : vs1 7 = .bool true := hG 7 (by decide) rfl
          have g8 : vs1 8 = .slice (some ⟨b1, o1, none⟩) l.length cx := hG 8 (by decide) rfl
          have g9 : vs1 9 = .int .i64 (i : Int) := hG 9 (by decide) rfl
          have g10 : vs1 10 = .pointer (some ⟨b1, o1 + i * 5, none⟩) := hG 10 (by decide) rfl
          have g11 : vs1 11 = .pointer (some ⟨b1, o1 + i * 5 + 2, none⟩) := hG 11 (by decide) rfl
          have g12 : vs1 12 = .slice A1 x.reads.length A2 := hG 12 (by decide) rfl
          have g13 : vs1 13 = .slice (some ⟨b1, o1, none⟩) l.length cx := hG 13 (by decide) rfl
          have g14 : vs1 14 = .int .i64 (i : Int) := hG 14 (by decide) rfl
          have g15 : vs1 15 = .pointer (some ⟨b1, o1 + i * 5, none⟩) := hG 15 (by decide) rfl
          have g16 : vs1 16 = .pointer (some ⟨b1, o1 + i * 5 + 3, none⟩) := hG 16 (by decide) rfl
          have g17 : vs1 17 = .slice A3 x.writes.length A4 := hG 17 (by decide) rfl
          have g18 : vs1 18 = .bool false := hG 18 (by decide) rfl
          clear hG hsame
          simp only [putAll, ea, e9, g0, g1, g2, g3, g4, g5, g6, g7, g8, g9, g10, g11, g12, g13, g14, g15, g16, g17, g18]
          clear ea e9 g0 g1 g2 g3 g4 g5 g6 g7 g8 g9 g10 g11 g12 g13 g14 g15 g16 g17 g18
          go_simp
          have q9 : Below w.heap.size w W9 := q.grown hg9 q.size fun k hk => (hrr k hk).1
          clear hO hk1 hk2 hg9 q c1 c2 c3
          go_wp2_with fail
          go_roundw
          case rel =>
            obtain rfl := hL9.out
            exact ⟨i + 1, _, ad9, c9, by go_num, by omega, rfl, hO9, hG.out.snoc rfl (Int.le_refl _) (fun _ => rfl) (fun h => by cases h), fun p hp => by
              rcases List.mem_append.1 hp with h | h
              · exact hPs.out p h
              · obtain rfl := List.mem_singleton.1 h
                exact hx.out, by rw [List.length_append, List.length_singleton]; omega, q9⟩
          case measure => simp [intOf]; omega
      | false =>
        go_upto_region 12 with (fail)
        obtain ⟨n0, hn0⟩ : ∃ n0, n0 = wr.heap.size := ⟨_, rfl⟩
        have hw0 : w.heap.size ≤ n0 := by rw [hn0]; exact q.size
        have hl9 : RdL Elt.one14 (fun k => S k ∧ k < w.heap.size) wr (.slice (some ⟨b1, o1, none⟩) l.length cx) l := hl.below q
        go_loopw [8, 9] (fun lvv kv wz => ∃ (k : Nat) (L : List Lv) (aL : Option Addr) (kL : Nat), kv = .int .i64 k ∧ k ≤ l.length ∧ lvv = .slice aL L.length kL ∧ OwnL Elt.lv 24 n0 0 wz (.slice aL L.length kL) L ∧ L.length ≤ k ∧ (∀ y ∈ L, smL y.reads) ∧ Below wr.heap.size wr wz) (fun _ k _ => l.length - (intOf k).toNat)
        case atStart => exact ⟨i + 1, [], none, 0, by go_num, by omega, rfl, OwnL.nil _ _ _ _ _, Nat.zero_le _, (fun _ h => by cases h), Below.refl _ _⟩
        case round =>
          obtain ⟨k, L, aL, kL, rfl, hkl, rfl, hL, hLk, hLs, qz⟩ := hrel
          replace hLs := Lib.hid hLs
          rcases Nat.lt_or_ge k l.length with hltk | hge
          · have dk : decide ((k : Int) < (l.length : Int)) = true := decide_eq_true (by omega)
            obtain ⟨b2, o2, B1, B2, B3, B4, e2, hb2S, ⟨_, d1, d2, _, d4⟩, hk3, _, hoky⟩ := (hl9.below qz).ot k hltk
            injection e2 with e2
            injection e2 with f1 f2 _
            subst f1 f2
            have hy := Lib.hid (hsm.out _ (List.getElem_mem hltk))
            obtain ⟨y, ey⟩ : ∃ y, y = l[k] := ⟨_, rfl⟩
            rw [← ey] at d1 d2 d4 hk3 hoky hy
            clear ey
            obtain ⟨hkn1, hkn2⟩ := modO y.known y.reads.length
            have hky1 := hoky.2.2.1
            have hky2 := hoky.2.2.2
            obtain ⟨_, hrc, hrm⟩ := hk3.len
            have hrm2 : y.reads.length ≤ 1000000 := hy.out.1.1
            obtain ⟨hbY, ehb7⟩ : ∃ b, b = y.held := ⟨_, rfl⟩
            rw [← ehb7] at d1
            clear ehb7
            go_upto_region 14 with (fail)
            clear dk
            go_quiet (fail)
            obtain ⟨kn, ekn⟩ : ∃ kn : Nat, (kn : Int) = y.known % ((y.reads.length : Int) + 1) := ⟨(y.known % ((y.reads.length : Int) + 1)).toNat, by omega⟩
            rw [← ekn]
            have hknl : kn ≤ y.reads.length := by omega
            clear ekn hkn1 hkn2 hky1 hky2 d4
            rename_i nq
            replace hL := hL.below (Below.drewN (Below.refl _ _) nq)
            replace qz := Below.drewN qz nq
            replace hk3 := hk3.below (Below.drewN (Below.refl _ _) nq)
            replace d1 := ((Below.drewN (Below.refl wr.heap.size wr) nq).cell (p := ⟨_, _, none⟩) (cell_lt d1)).trans d1
            replace d2 := ((Below.drewN (Below.refl wr.heap.size wr) nq).cell (p := ⟨_, _, none⟩) (cell_lt d2)).trans d2
            cases hbY with
            | true =>
              go_wp2_with fail
              go_roundw
              case rel => exact ⟨k + 1, L, aL, kL, by go_num, by omega, rfl, hL, by omega, hLs.out, qz⟩
              case measure => simp [intOf]; omega
            | false =>
              obtain ⟨w8, hw8⟩ : ∃ w8, w8 = wr.drewN nq := ⟨_, rfl⟩
              rw [← hw8] at hL qz hk3 d1 d2
              rw [← hw8]
              clear hw8
              have hown : ∀ g, Value.ownBlock (.slice aL L.length kL) = some g → w.heap.size ≤ g ∧ n0 ≤ g ∧ g < w8.heap.size := fun g hg => ⟨Nat.le_trans hw0 (hL.block_lt g hg).1, (hL.block_lt g hg).1, (hL.block_lt g hg).2⟩
              go_wp2_with (first
                | (refine wpList_sliceL (E := Elt.sp) spP.toLsP rfl rfl rfl hk3 (l := 0) (r := kn) (run_bounds_h' _ rfl (by omega)) ?_ (by omega) hknl; intro aX cX hX)
                | (refine wpList_buildOne (us := [.int .i64 0, .slice aX (kn - 0) cX]) lvP rfl rfl rfl rfl rfl (by decide) (by decide) ?_; intro w7 hb7 hrow)
                | (refine wpList_apvRow (E := Elt.lv) (base := n0) (lo := 0) (v := .slice aL L.length kL) (n := L.length + 1) (e := ⟨0, (y.reads.drop 0).take (kn - 0)⟩) (S := fun k => (S k ∧ k < w.heap.size) ∧ k < w.heap.size) lvP rfl rfl rfl rfl (hL.below hb7) hrow ⟨_, rfl, (hX.below hb7).weak fun k hk => ⟨hk, hk.2⟩, show W64 (0 : Int) by unfold W64; decide⟩ (fun k hk => ⟨Nat.zero_le _, by have := hk.2; have := qz.size; have := hb7.size; omega, fun e => by have := (hown k e.symm).1; have := hk.2; omega⟩) (by have := qz.size; have := hb7.size; omega) (by omega) rfl ?_; intro ad9 c9 w9 hO9 hg9 ho9)
                | fail)
              have q9 := (qz.trans (hb7.mono qz.size)).grown hg9 (qz.trans (hb7.mono qz.size)).size fun k hk => by rw [← hn0]; exact (hown k hk).2.1
              go_roundw
              case rel => exact ⟨k + 1, L ++ [⟨0, (y.reads.drop 0).take (kn - 0)⟩], ad9, c9, by go_num, by omega, by rw [List.length_append]; rfl, by rw [List.length_append]; exact hO9, by rw [List.length_append, List.length_singleton]; omega, fun z hz => by
                rcases List.mem_append.1 hz with h | h
                · exact hLs.out z h
                · obtain rfl := List.mem_singleton.1 h
                  exact ⟨Nat.le_trans (List.length_take_le _ _) (Nat.le_trans (Nat.sub_le _ _) (by omega)), fun s hs => hy.out.1.2 s (List.mem_of_mem_drop (List.mem_of_mem_take hs))⟩, q9⟩
              case measure => simp [intOf]; omega
          · obtain rfl : k = l.length := by omega
            have dk : decide ((l.length : Int) < (l.length : Int)) = false := decide_eq_false (by omega)
            have hPr := (hO.below qz).rdL
            have hLr := hL.rdL
            have hLn : L.length ≤ 1000000 := by omega
            replace hk1 := hk1.below qz
            replace hk2 := hk2.below qz
            replace hO := hO.below qz
            replace c1 := (qz.cell (p := ⟨_, _, none⟩) (cell_lt c1)).trans c1
            replace c2 := (qz.cell (p := ⟨_, _, none⟩) (cell_lt c2)).trans c2
            replace c3 := (qz.cell (p := ⟨_, _, none⟩) (cell_lt c3)).trans c3
            replace q := q.trans (qz.mono q.size)
            replace hLs := hLs.out
            go_upto_region 17 with (fail)
            clear dk
            refine wp_region_gsg (by kernel_rfl) (by kernel_rfl) [sgEq (.int .i64 sn), sgEq (.slice (some ⟨b1, o1, none⟩) l.length cx), sgEq (.int .i64 (i : Int)), sgEq (.pointer (some ⟨b1, o1 + i * 5, none⟩)), sgEq (.pointer (some ⟨b1, o1 + i * 5 + 2, none⟩)), sgEq (.slice A1 x.reads.length A2), sgEq (.agg #[.int .i64 sn, .slice A1 x.reads.length A2]), sgEq (.slice (some ⟨b1, o1, none⟩) l.length cx), sgEq (.int .i64 (i : Int)), sgEq (.pointer (some ⟨b1, o1 + i * 5, none⟩)), sgEq (.pointer (some ⟨b1, o1 + i * 5 + 3, none⟩)), sgEq (.slice A3 x.writes.length A4), sgEq (.slice ad P.length ko), sgEq (.slice aL L.length kL), sgEq (.tuple #[.bool (judgeP ⟨sn, x.reads⟩ x.writes P L).1, .int .i64 ((judgeP ⟨sn, x.reads⟩ x.writes P L).2 : Int)]), sgEq (.tuple #[.bool (judgeP ⟨sn, x.reads⟩ x.writes P L).1, .int .i64 ((judgeP ⟨sn, x.reads⟩ x.writes P L).2 : Int)]), sgEq (.bool (judgeP ⟨sn, x.reads⟩ x.writes P L).1), sgEq (.int .i64 ((judgeP ⟨sn, x.reads⟩ x.writes P L).2 : Int)), sgEq (.bool (judgeP ⟨sn, x.reads⟩ x.writes P L).1), sgEq (.int .i64 ((judgeP ⟨sn, x.reads⟩ x.writes P L).2 : Int))]
              ⟨?o0, ?o1, ?o2, ?o3, ?o4, ?o5, ?o6, ?o7, ?o8, ?o9, ?o10, ?o11, ?o12, ?o13, ?o14, ?o15, ?o16, ?o17, ?o18, ?o19, trivial⟩ ?fin
            case o0 =>
              refine GdOp.plain rfl (fun A vs w' hF hT hb hd => ?_)
              have e1 : A.eval (.tmp 6) = .int .i64 sn := hF 6 rfl
              exact BigFrame.wp_move _ rfl ⟨_, rfl, e1, Below.refl _ _⟩
            case o1 =>
              refine GdOp.plain rfl (fun A vs w' hF hT hb hd => ?_)
              have e1 : A.eval (.tmp 0) = .slice (some ⟨b1, o1, none⟩) l.length cx := hF 0 rfl
              exact BigFrame.wp_move _ rfl ⟨_, rfl, e1, Below.refl _ _⟩
            case o2 =>
              refine GdOp.plain rfl (fun A vs w' hF hT hb hd => ?_)
              have e1 : A.eval (.tmp 4) = .int .i64 (i : Int) := hF 4 rfl
              exact BigFrame.wp_move _ rfl ⟨_, rfl, e1, Below.refl _ _⟩
            case o3 =>
              refine GdOp.plain rfl (fun A vs w' hF hT hb hd => ?_)
              have e1 : A.eval (.tmp 81) = .slice (some ⟨b1, o1, none⟩) l.length cx := (hT 81 1 (by simp) rfl).trans (hd ⟨1, .data⟩ (by simp) rfl)
              have e2 : A.eval (.tmp 82) = .int .i64 (i : Int) := (hT 82 2 (by simp) rfl).trans (hd ⟨2, .data⟩ (by simp) rfl)
              exact wp_ixN (e := 43) rfl (by kernel_rfl) (by kernel_rfl) (e1) (e2) rfl (by omega) ⟨_, rfl, rfl, Below.refl _ _⟩
            case o4 =>
              refine GdOp.plain rfl (fun A vs w' hF hT hb hd => ?_)
              have e1 : A.eval (.tmp 83) = .pointer (some ⟨b1, o1 + i * 5, none⟩) := (hT 83 3 (by simp) rfl).trans (hd ⟨3, .data⟩ (by simp) rfl)
              exact wp_fieldN otS rfl (e1) (by omega) ⟨_, rfl, rfl, Below.refl _ _⟩
            case o5 =>
              refine GdOp.plain rfl (fun A vs w' hF hT hb hd => ?_)
              have e1 : A.eval (.tmp 84) = .pointer (some ⟨b1, o1 + i * 5 + 2, none⟩) := (hT 84 4 (by simp) rfl).trans (hd ⟨4, .data⟩ (by simp) rfl)
              exact wp_ld_slice (e := 57) rfl e1 (by kernel_rfl) (((hb.cell (p := ⟨_, _, none⟩) (cell_lt c2)).trans c2)) ⟨_, rfl, rfl, Below.refl _ _⟩
            case o6 =>
              refine GdOp.plain rfl (fun A vs w' hF hT hb hd => ?_)
              have e1 : A.eval (.tmp 80) = .int .i64 sn := (hT 80 0 (by simp) rfl).trans (hd ⟨0, .data⟩ (by simp) rfl)
              have e2 : A.eval (.tmp 85) = .slice A1 x.reads.length A2 := (hT 85 5 (by simp) rfl).trans (hd ⟨5, .data⟩ (by simp) rfl)
              exact wp_build2 lvS rfl e1 e2 rfl rfl ⟨_, rfl, rfl, Below.refl _ _⟩
            case o7 =>
              refine GdOp.plain rfl (fun A vs w' hF hT hb hd => ?_)
              have e1 : A.eval (.tmp 0) = .slice (some ⟨b1, o1, none⟩) l.length cx := hF 0 rfl
              exact BigFrame.wp_move _ rfl ⟨_, rfl, e1, Below.refl _ _⟩
            case o8 =>
              refine GdOp.plain rfl (fun A vs w' hF hT hb hd => ?_)
              have e1 : A.eval (.tmp 4) = .int .i64 (i : Int) := hF 4 rfl
              exact BigFrame.wp_move _ rfl ⟨_, rfl, e1, Below.refl _ _⟩
            case o9 =>
              refine GdOp.plain rfl (fun A vs w' hF hT hb hd => ?_)
              have e1 : A.eval (.tmp 87) = .slice (some ⟨b1, o1, none⟩) l.length cx := (hT 87 7 (by simp) rfl).trans (hd ⟨7, .data⟩ (by simp) rfl)
              have e2 : A.eval (.tmp 88) = .int .i64 (i : Int) := (hT 88 8 (by simp) rfl).trans (hd ⟨8, .data⟩ (by simp) rfl)
              exact wp_ixN (e := 43) rfl (by kernel_rfl) (by kernel_rfl) (e1) (e2) rfl (by omega) ⟨_, rfl, rfl, Below.refl _ _⟩
            case o10 =>
              refine GdOp.plain rfl (fun A vs w' hF hT hb hd => ?_)
              have e1 : A.eval (.tmp 89) = .pointer (some ⟨b1, o1 + i * 5, none⟩) := (hT 89 9 (by simp) rfl).trans (hd ⟨9, .data⟩ (by simp) rfl)
              exact wp_fieldN otS rfl (e1) (by omega) ⟨_, rfl, rfl, Below.refl _ _⟩
            case o11 =>
              refine GdOp.plain rfl (fun A vs w' hF hT hb hd => ?_)
              have e1 : A.eval (.tmp 90) = .pointer (some ⟨b1, o1 + i * 5 + 3, none⟩) := (hT 90 10 (by simp) rfl).trans (hd ⟨10, .data⟩ (by simp) rfl)
              exact wp_ld_slice (e := 59) rfl e1 (by kernel_rfl) (((hb.cell (p := ⟨_, _, none⟩) (cell_lt c3)).trans c3)) ⟨_, rfl, rfl, Below.refl _ _⟩
            case o12 =>
              refine GdOp.plain rfl (fun A vs w' hF hT hb hd => ?_)
              have e1 : A.eval (.tmp 3) = .slice ad P.length ko := hF 3 rfl
              exact BigFrame.wp_move _ rfl ⟨_, rfl, e1, Below.refl _ _⟩
            case o13 =>
              refine GdOp.plain rfl (fun A vs w' hF hT hb hd => ?_)
              have e1 : A.eval (.tmp 8) = .slice aL L.length kL := hF 8 rfl
              exact BigFrame.wp_move _ rfl ⟨_, rfl, e1, Below.refl _ _⟩
            case o14 =>
              refine GdOp.plain rfl (fun A vs w' hF hT hb hd => ?_)
              have e1 : A.eval (.tmp 86) = .agg #[.int .i64 sn, .slice A1 x.reads.length A2] := (hT 86 6 (by simp) rfl).trans (hd ⟨6, .data⟩ (by simp) rfl)
              have e2 : A.eval (.tmp 91) = .slice A3 x.writes.length A4 := (hT 91 11 (by simp) rfl).trans (hd ⟨11, .data⟩ (by simp) rfl)
              have e3 : A.eval (.tmp 92) = .slice ad P.length ko := (hT 92 12 (by simp) rfl).trans (hd ⟨12, .data⟩ (by simp) rfl)
              have e4 : A.eval (.tmp 93) = .slice aL L.length kL := (hT 93 13 (by simp) rfl).trans (hd ⟨13, .data⟩ (by simp) rfl)
              refine wp_callFn rfl eJ (args := #[.agg #[.int .i64 sn, .slice A1 x.reads.length A2], .slice A3 x.writes.length A4, .slice ad P.length ko, .slice aL L.length kL]) (by simp only [List.map_toArray, List.map_cons, List.map_nil, e1, e2, e3, e4]) ((hJ.call w' (me := ⟨sn, x.reads⟩) ⟨_, _, rfl, hk1.below hb, hsw⟩ (hk2.below hb) (hPr.below hb) (hLr.below hb) hx.out ⟨by omega, hPs.out⟩ hLn hLs).mono ?_)
              rintro e w2 ⟨rfl, hb2⟩
              exact ⟨_, rfl, _, rfl, rfl, hb2⟩
            case o15 =>
              refine GdOp.plain rfl (fun A vs w' hF hT hb hd => ?_)
              have e1 : A.eval (.tmp 94) = .tuple #[.bool (judgeP ⟨sn, x.reads⟩ x.writes P L).1, .int .i64 ((judgeP ⟨sn, x.reads⟩ x.writes P L).2 : Int)] := (hT 94 14 (by simp) rfl).trans (hd ⟨14, .data⟩ (by simp) rfl)
              exact BigFrame.wp_move _ rfl ⟨_, rfl, e1, Below.refl _ _⟩
            case o16 =>
              refine GdOp.plain rfl (fun A vs w' hF hT hb hd => ?_)
              have e1 : A.eval (.tmp 79) = .tuple #[.bool (judgeP ⟨sn, x.reads⟩ x.writes P L).1, .int .i64 ((judgeP ⟨sn, x.reads⟩ x.writes P L).2 : Int)] := (hT 79 15 (by simp) rfl).trans (hd ⟨15, .data⟩ (by simp) rfl)
              exact wp_ex rfl e1 rfl ⟨_, rfl, rfl, Below.refl _ _⟩
            case o17 =>
              refine GdOp.plain rfl (fun A vs w' hF hT hb hd => ?_)
              have e1 : A.eval (.tmp 79) = .tuple #[.bool (judgeP ⟨sn, x.reads⟩ x.writes P L).1, .int .i64 ((judgeP ⟨sn, x.reads⟩ x.writes P L).2 : Int)] := (hT 79 15 (by simp) rfl).trans (hd ⟨15, .data⟩ (by simp) rfl)
              exact wp_ex rfl e1 rfl ⟨_, rfl, rfl, Below.refl _ _⟩
            case o18 =>
              refine GdOp.plain rfl (fun A vs w' hF hT hb hd => ?_)
              have e1 : A.eval (.tmp 95) = .bool (judgeP ⟨sn, x.reads⟩ x.writes P L).1 := (hT 95 16 (by simp) rfl).trans (hd ⟨16, .data⟩ (by simp) rfl)
              exact BigFrame.wp_assign _ rfl ⟨_, rfl, e1, Below.refl _ _⟩
            case o19 =>
              refine GdOp.plain rfl (fun A vs w' hF hT hb hd => ?_)
              have e1 : A.eval (.tmp 96) = .int .i64 ((judgeP ⟨sn, x.reads⟩ x.writes P L).2 : Int) := (hT 96 17 (by simp) rfl).trans (hd ⟨17, .data⟩ (by simp) rfl)
              exact BigFrame.wp_assign _ rfl ⟨_, rfl, e1, Below.refl _ _⟩
            case fin =>
            intro vs9 W9 hb9 hG9
            have e0 : vs9 0 = .int .i64 sn := hG9 0 (by decide)
            have e1 : vs9 1 = .slice (some ⟨b1, o1, none⟩) l.length cx := hG9 1 (by decide)
            have e2 : vs9 2 = .int .i64 (i : Int) := hG9 2 (by decide)
            have e3 : vs9 3 = .pointer (some ⟨b1, o1 + i * 5, none⟩) := hG9 3 (by decide)
            have e4 : vs9 4 = .pointer (some ⟨b1, o1 + i * 5 + 2, none⟩) := hG9 4 (by decide)
            have e5 : vs9 5 = .slice A1 x.reads.length A2 := hG9 5 (by decide)
            have e6 : vs9 6 = .agg #[.int .i64 sn, .slice A1 x.reads.length A2] := hG9 6 (by decide)
            have e7 : vs9 7 = .slice (some ⟨b1, o1, none⟩) l.length cx := hG9 7 (by decide)
            have e8 : vs9 8 = .int .i64 (i : Int) := hG9 8 (by decide)
            have e9 : vs9 9 = .pointer (some ⟨b1, o1 + i * 5, none⟩) := hG9 9 (by decide)
            have e10 : vs9 10 = .pointer (some ⟨b1, o1 + i * 5 + 3, none⟩) := hG9 10 (by decide)
            have e11 : vs9 11 = .slice A3 x.writes.length A4 := hG9 11 (by decide)
            have e12 : vs9 12 = .slice ad P.length ko := hG9 12 (by decide)
            have e13 : vs9 13 = .slice aL L.length kL := hG9 13 (by decide)
            have e14 : vs9 14 = .tuple #[.bool (judgeP ⟨sn, x.reads⟩ x.writes P L).1, .int .i64 ((judgeP ⟨sn, x.reads⟩ x.writes P L).2 : Int)] := hG9 14 (by decide)
            have e15 : vs9 15 = .tuple #[.bool (judgeP ⟨sn, x.reads⟩ x.writes P L).1, .int .i64 ((judgeP ⟨sn, x.reads⟩ x.writes P L).2 : Int)] := hG9 15 (by decide)
            have e16 : vs9 16 = .bool (judgeP ⟨sn, x.reads⟩ x.writes P L).1 := hG9 16 (by decide)
            have e17 : vs9 17 = .int .i64 ((judgeP ⟨sn, x.reads⟩ x.writes P L).2 : Int) := hG9 17 (by decide)
            have e18 : vs9 18 = .bool (judgeP ⟨sn, x.reads⟩ x.writes P L).1 := hG9 18 (by decide)
            have e19 : vs9 19 = .int .i64 ((judgeP ⟨sn, x.reads⟩ x.writes P L).2 : Int) := hG9 19 (by decide)
            simp only [putAll, e0, e1, e2, e3, e4, e5, e6, e7, e8, e9, e10, e11, e12, e13, e14, e15, e16, e17, e18, e19]
            clear hG9 e0 e1 e2 e3 e4 e5 e6 e7 e8 e9 e10 e11 e12 e13 e14 e15 e16 e17 e18 e19
            replace hk1 := hk1.below hb9
            replace hk2 := hk2.below hb9
            replace hO := hO.below hb9
            replace q := q.trans (hb9.mono q.size)
            replace c3 := (hb9.cell (p := ⟨_, _, none⟩) (cell_lt c3)).trans c3
            replace c2 := (hb9.cell (p := ⟨_, _, none⟩) (cell_lt c2)).trans c2
            replace c1 := (hb9.cell (p := ⟨_, _, none⟩) (cell_lt c1)).trans c1
            clear hb9
            go_simp
            obtain ⟨jo, ejo⟩ : ∃ j, j = (judgeP ⟨sn, x.reads⟩ x.writes P L).1 := ⟨_, rfl⟩
            obtain ⟨je, eje⟩ : ∃ j, j = (judgeP ⟨sn, x.reads⟩ x.writes P L).2 := ⟨_, rfl⟩
            have hj := Lib.hid (show judgeP ⟨sn, x.reads⟩ x.writes P L = (jo, je) by rw [ejo, eje])
            rw [← ejo, ← eje]
            clear ejo eje hPr hLr hL hLs hl9
            by_cases h0 : je = 0
            case neg =>
              have d0 : ((je : Int) != 0) = true := by simp [h0]
              clear hj h0
              go_wp2_with fail
              go_roundw
              case rel => exact ⟨i + 1, P, ad, ko, by go_num, by omega, rfl, hO, hG.out, hPs.out, by omega, q⟩
              case measure => simp [intOf]; omega
            subst h0
            obtain ⟨jo9, _⟩ : ∃ j, j = jo := ⟨_, rfl⟩
            go_upto_region 20 with (fail)
            have hrr : ∀ k, Value.ownBlock (.slice ad P.length ko) = some k → w.heap.size ≤ k ∧ k < W9.heap.size := fun k hk => hO.block_lt k hk
            have hrW : ∀ k, Value.ownBlock (.slice ad P.length ko) = some k → k < W9.heap.size := fun k hk => (hrr k hk).2
            have hS : ∀ k, (fun k => k < w.heap.size) k → some k ≠ Value.ownBlock (.slice ad P.length ko) := fun k h e => by have := (hrr k e.symm).1; have h2 : k < w.heap.size := h; omega
            have hrS : ∀ k, Value.ownBlock (.slice ad P.length ko) = some k → ¬ (S k ∧ k < w.heap.size) := fun k hk h2 => by have := hrr k hk; omega
            have hbW : b1 < W9.heap.size := cell_lt c1
            have hbr : some b1 ≠ Value.ownBlock (.slice ad P.length ko) := fun e => by have := hrr b1 e.symm; have := hbS.2; omega
            have hbase : w.heap.size ≤ W9.heap.size := q.size
            refine wp_region_lnl (K := fun A B => A.grownBy B (Value.ownBlock (.slice ad P.length ko))) (by kernel_rfl) (by kernel_rfl) [21, 22] (by kernel_rfl) [lEq (.slice ad P.length ko), lEq (.int .i64 sn), lEq (.int .i64 ((P.length : Int) + 1)), lEq (.slice (some ⟨b1, o1, none⟩) l.length cx), lEq (.int .i64 (i : Int)), lEq (.pointer (some ⟨b1, o1 + i * 5, none⟩)), lEq (.pointer (some ⟨b1, o1 + i * 5 + 1, none⟩)), lEq (.bool false), lEq (.slice (some ⟨b1, o1, none⟩) l.length cx), lEq (.int .i64 (i : Int)), lEq (.pointer (some ⟨b1, o1 + i * 5, none⟩)), lEq (.pointer (some ⟨b1, o1 + i * 5 + 2, none⟩)), lEq (.slice A1 x.reads.length A2), lEq (.slice (some ⟨b1, o1, none⟩) l.length cx), lEq (.int .i64 (i : Int)), lEq (.pointer (some ⟨b1, o1 + i * 5, none⟩)), lEq (.pointer (some ⟨b1, o1 + i * 5 + 3, none⟩)), lEq (.slice A3 x.writes.length A4), lEq (.bool jo), aElt Elt.ps (W9) (Value.ownBlock (.slice ad P.length ko)) (fun k => k < w.heap.size) ((⟨sn, (P.length : Int) + 1, false, x.reads, x.writes, jo⟩ : Ps)) hrW hS, aRow Elt.ps 50 (W9) (Value.ownBlock (.slice ad P.length ko)) (fun k => k < w.heap.size) ((⟨sn, (P.length : Int) + 1, false, x.reads, x.writes, jo⟩ : Ps)) hrW hS, lAny, lAny] (ApJ Elt.ps 50 (w.heap.size) (0) (Value.ownBlock (.slice ad P.length ko)) (W9) (P) [(⟨sn, (P.length : Int) + 1, false, x.reads, x.writes, jo⟩ : Ps)]) ApJ.below (show Below (W9).heap.size (W9) (W9) from Below.refl _ _)
              ⟨?o0, ?o1, ?o2, ?o3, ?o4, ?o5, ?o6, ?o7, ?o8, ?o9, ?o10, ?o11, ?o12, ?o13, ?o14, ?o15, ?o16, ?o17, ?o18, ?o19, ?o20, ?o21, ?o22, trivial⟩ ?fin
            case o0 =>
              refine LnOp.side rfl (by kernel_rfl) (fun A va w' k hF hT hk hJ hb hu hp hd => ?_)
              have e1 : A.eval (.tmp 3) = .slice ad P.length ko := (hT 3 22 (by simp) rfl).trans (hu 1 22 3 (hb 1 22 rfl (by kernel_rfl)) rfl rfl)
              exact BigFrame.wp_move _ rfl ⟨_, rfl, e1, Below.refl _ _⟩
            case o1 =>
              refine LnOp.side rfl (by kernel_rfl) (fun A va w' k hF hT hk hJ hb hu hp hd => ?_)
              have e1 : A.eval (.tmp 6) = .int .i64 sn := hF 6 rfl
              exact BigFrame.wp_move _ rfl ⟨_, rfl, e1, Below.refl _ _⟩
            case o2 =>
              refine LnOp.side rfl (by kernel_rfl) (fun A va w' k hF hT hk hJ hb hu hp hd => ?_)
              have e1 : A.eval (.tmp 5) = .int .i64 ((P.length : Int) + 1) := hF 5 rfl
              exact BigFrame.wp_move _ rfl ⟨_, rfl, e1, Below.refl _ _⟩
            case o3 =>
              refine LnOp.side rfl (by kernel_rfl) (fun A va w' k hF hT hk hJ hb hu hp hd => ?_)
              have e1 : A.eval (.tmp 0) = .slice (some ⟨b1, o1, none⟩) l.length cx := hF 0 rfl
              exact BigFrame.wp_move _ rfl ⟨_, rfl, e1, Below.refl _ _⟩
            case o4 =>
              refine LnOp.side rfl (by kernel_rfl) (fun A va w' k hF hT hk hJ hb hu hp hd => ?_)
              have e1 : A.eval (.tmp 4) = .int .i64 (i : Int) := hF 4 rfl
              exact BigFrame.wp_move _ rfl ⟨_, rfl, e1, Below.refl _ _⟩
            case o5 =>
              refine LnOp.side rfl (by kernel_rfl) (fun A va w' k hF hT hk hJ hb hu hp hd => ?_)
              have e1 : A.eval (.tmp 103) = .slice (some ⟨b1, o1, none⟩) l.length cx := (hT 103 3 (by simp) rfl).trans (hd ⟨3, .data⟩ (by simp) rfl rfl)
              have e2 : A.eval (.tmp 104) = .int .i64 (i : Int) := (hT 104 4 (by simp) rfl).trans (hd ⟨4, .data⟩ (by simp) rfl rfl)
              exact wp_ixN (e := 43) rfl (by kernel_rfl) (by kernel_rfl) (e1) (e2) rfl (by omega) ⟨_, rfl, rfl, Below.refl _ _⟩
            case o6 =>
              refine LnOp.side rfl (by kernel_rfl) (fun A va w' k hF hT hk hJ hb hu hp hd => ?_)
              have e1 : A.eval (.tmp 105) = .pointer (some ⟨b1, o1 + i * 5, none⟩) := (hT 105 5 (by simp) rfl).trans (hd ⟨5, .data⟩ (by simp) rfl rfl)
              exact wp_fieldN otS rfl (e1) (by omega) ⟨_, rfl, rfl, Below.refl _ _⟩
            case o7 =>
              refine LnOp.side rfl (by kernel_rfl) (fun A va w' k hF hT hk hJ hb hu hp hd => ?_)
              have e1 : A.eval (.tmp 106) = .pointer (some ⟨b1, o1 + i * 5 + 1, none⟩) := (hT 106 6 (by simp) rfl).trans (hd ⟨6, .data⟩ (by simp) rfl rfl)
              have hJg : (W9).grownBy w' (Value.ownBlock (.slice ad P.length ko)) := ApJ.grown hJ
              have c9 := (cell_keep (hJg.block b1 hbW hbr) _).trans c1
              exact wp_ld_bool rfl e1 (by kernel_rfl) c9 ⟨_, rfl, rfl, Below.refl _ _⟩
            case o8 =>
              refine LnOp.side rfl (by kernel_rfl) (fun A va w' k hF hT hk hJ hb hu hp hd => ?_)
              have e1 : A.eval (.tmp 0) = .slice (some ⟨b1, o1, none⟩) l.length cx := hF 0 rfl
              exact BigFrame.wp_move _ rfl ⟨_, rfl, e1, Below.refl _ _⟩
            case o9 =>
              refine LnOp.side rfl (by kernel_rfl) (fun A va w' k hF hT hk hJ hb hu hp hd => ?_)
              have e1 : A.eval (.tmp 4) = .int .i64 (i : Int) := hF 4 rfl
              exact BigFrame.wp_move _ rfl ⟨_, rfl, e1, Below.refl _ _⟩
            case o10 =>
              refine LnOp.side rfl (by kernel_rfl) (fun A va w' k hF hT hk hJ hb hu hp hd => ?_)
              have e1 : A.eval (.tmp 108) = .slice (some ⟨b1, o1, none⟩) l.length cx := (hT 108 8 (by simp) rfl).trans (hd ⟨8, .data⟩ (by simp) rfl rfl)
              have e2 : A.eval (.tmp 109) = .int .i64 (i : Int) := (hT 109 9 (by simp) rfl).trans (hd ⟨9, .data⟩ (by simp) rfl rfl)
              exact wp_ixN (e := 43) rfl (by kernel_rfl) (by kernel_rfl) (e1) (e2) rfl (by omega) ⟨_, rfl, rfl, Below.refl _ _⟩
            case o11 =>
              refine LnOp.side rfl (by kernel_rfl) (fun A va w' k hF hT hk hJ hb hu hp hd => ?_)
              have e1 : A.eval (.tmp 110) = .pointer (some ⟨b1, o1 + i * 5, none⟩) := (hT 110 10 (by simp) rfl).trans (hd ⟨10, .data⟩ (by simp) rfl rfl)
              exact wp_fieldN otS rfl (e1) (by omega) ⟨_, rfl, rfl, Below.refl _ _⟩
            case o12 =>
              refine LnOp.side rfl (by kernel_rfl) (fun A va w' k hF hT hk hJ hb hu hp hd => ?_)
              have e1 : A.eval (.tmp 111) = .pointer (some ⟨b1, o1 + i * 5 + 2, none⟩) := (hT 111 11 (by simp) rfl).trans (hd ⟨11, .data⟩ (by simp) rfl rfl)
              have hJg : (W9).grownBy w' (Value.ownBlock (.slice ad P.length ko)) := ApJ.grown hJ
              have c9 := (cell_keep (hJg.block b1 hbW hbr) _).trans c2
              exact wp_ld_slice (e := 57) rfl e1 (by kernel_rfl) c9 ⟨_, rfl, rfl, Below.refl _ _⟩
            case o13 =>
              refine LnOp.side rfl (by kernel_rfl) (fun A va w' k hF hT hk hJ hb hu hp hd => ?_)
              have e1 : A.eval (.tmp 0) = .slice (some ⟨b1, o1, none⟩) l.length cx := hF 0 rfl
              exact BigFrame.wp_move _ rfl ⟨_, rfl, e1, Below.refl _ _⟩
            case o14 =>
              refine LnOp.side rfl (by kernel_rfl) (fun A va w' k hF hT hk hJ hb hu hp hd => ?_)
              have e1 : A.eval (.tmp 4) = .int .i64 (i : Int) := hF 4 rfl
              exact BigFrame.wp_move _ rfl ⟨_, rfl, e1, Below.refl _ _⟩
            case o15 =>
              refine LnOp.side rfl (by kernel_rfl) (fun A va w' k hF hT hk hJ hb hu hp hd => ?_)
              have e1 : A.eval (.tmp 113) = .slice (some ⟨b1, o1, none⟩) l.length cx := (hT 113 13 (by simp) rfl).trans (hd ⟨13, .data⟩ (by simp) rfl rfl)
              have e2 : A.eval (.tmp 114) = .int .i64 (i : Int) := (hT 114 14 (by simp) rfl).trans (hd ⟨14, .data⟩ (by simp) rfl rfl)
              exact wp_ixN (e := 43) rfl (by kernel_rfl) (by kernel_rfl) (e1) (e2) rfl (by omega) ⟨_, rfl, rfl, Below.refl _ _⟩
            case o16 =>
              refine LnOp.side rfl (by kernel_rfl) (fun A va w' k hF hT hk hJ hb hu hp hd => ?_)
              have e1 : A.eval (.tmp 115) = .pointer (some ⟨b1, o1 + i * 5, none⟩) := (hT 115 15 (by simp) rfl).trans (hd ⟨15, .data⟩ (by simp) rfl rfl)
              exact wp_fieldN otS rfl (e1) (by omega) ⟨_, rfl, rfl, Below.refl _ _⟩
            case o17 =>
              refine LnOp.side rfl (by kernel_rfl) (fun A va w' k hF hT hk hJ hb hu hp hd => ?_)
              have e1 : A.eval (.tmp 116) = .pointer (some ⟨b1, o1 + i * 5 + 3, none⟩) := (hT 116 16 (by simp) rfl).trans (hd ⟨16, .data⟩ (by simp) rfl rfl)
              have hJg : (W9).grownBy w' (Value.ownBlock (.slice ad P.length ko)) := ApJ.grown hJ
              have c9 := (cell_keep (hJg.block b1 hbW hbr) _).trans c3
              exact wp_ld_slice (e := 59) rfl e1 (by kernel_rfl) c9 ⟨_, rfl, rfl, Below.refl _ _⟩
            case o18 =>
              refine LnOp.side rfl (by kernel_rfl) (fun A va w' k hF hT hk hJ hb hu hp hd => ?_)
              have e1 : A.eval (.tmp 7) = .bool jo := hF 7 rfl
              exact BigFrame.wp_move _ rfl ⟨_, rfl, e1, Below.refl _ _⟩
            case o19 =>
              refine LnOp.side rfl (by kernel_rfl) (fun A va w' k hF hT hk hJ hb hu hp hd => ?_)
              have e1 : A.eval (.tmp 101) = .int .i64 sn := (hT 101 1 (by simp) rfl).trans (hd ⟨1, .data⟩ (by simp) rfl rfl)
              have e2 : A.eval (.tmp 102) = .int .i64 ((P.length : Int) + 1) := (hT 102 2 (by simp) rfl).trans (hd ⟨2, .data⟩ (by simp) rfl rfl)
              have e3 : A.eval (.tmp 107) = .bool false := (hT 107 7 (by simp) rfl).trans (hd ⟨7, .data⟩ (by simp) rfl rfl)
              have e4 : A.eval (.tmp 112) = .slice A1 x.reads.length A2 := (hT 112 12 (by simp) rfl).trans (hd ⟨12, .data⟩ (by simp) rfl rfl)
              have e5 : A.eval (.tmp 117) = .slice A3 x.writes.length A4 := (hT 117 17 (by simp) rfl).trans (hd ⟨17, .data⟩ (by simp) rfl rfl)
              have e6 : A.eval (.tmp 118) = .bool jo := (hT 118 18 (by simp) rfl).trans (hd ⟨18, .data⟩ (by simp) rfl rfl)
              have hJg : (W9).grownBy w' (Value.ownBlock (.slice ad P.length ko)) := ApJ.grown hJ
              have hJs := hJg.size
              exact wp_buildPs rfl e1 e2 e3 e4 e5 e6 ⟨_, rfl, ⟨_, rfl, ⟨_, _, rfl, (hk1.grownR hJg hrS).weak fun k hk => ⟨.inl hk.2, by have := hk.2; omega⟩, (hk2.grownR hJg hrS).weak fun k hk => ⟨.inl hk.2, by have := hk.2; omega⟩, hsw, show W64 ((P.length : Int) + 1) by unfold W64; omega⟩⟩, Below.refl _ _⟩
            case o20 =>
              refine LnOp.side rfl (by kernel_rfl) (fun A va w' k hF hT hk hJ hb hu hp hd => ?_)
              have x1 : A.eval (.tmp 119) = va 19 := hT 119 19 (by simp) rfl
              have y1 := hd ⟨19, .data⟩ (by simp) rfl rfl
              obtain rfl : k = 0 := by have := hb 0 21 rfl (by kernel_rfl); omega
              have hJ0 : Below (W9).heap.size (W9) w' := hJ
              obtain ⟨us, eus, hR⟩ : ∃ us : List Value, (va 19).cells = us.toArray ∧ Elt.R Elt.ps (inNew (fun k => k < w.heap.size) (W9) w') w' ((⟨sn, (P.length : Int) + 1, false, x.reads, x.writes, jo⟩ : Ps)) us := y1
              exact wp_buildOne psP rfl x1 eus (Elt.len _ hR) (by decide) (by decide) ⟨_, rfl, aRow.mk (hr := hrW) (hS := hS) hJ0.size hR, (Below.refl _ _).alloc (Nat.le_refl _) _⟩
            case o21 =>
              refine LnOp.line 0 rfl rfl (fun A va w' hF hT hJ hu hd => ?_)
              have e1 : A.eval (.tmp 100) = .slice ad P.length ko := (hT 100 0 (by simp) rfl).trans (hd ⟨0, .data⟩ (by simp) rfl rfl)
              have x2 : A.eval (.tmp 120) = va 20 := hT 120 20 (by simp) rfl
              have y2 := hd ⟨20, .data⟩ (by simp) rfl rfl
              exact wp_apv (hr := hrW) (hS := hS) psP hJ rfl e1 x2 hO rfl y2 (fun _ _ => Nat.zero_le _) (Nat.zero_le _) hbase (by omega) (fun v' V' h1 h2 => ⟨_, rfl, h1, h2⟩)
            case o22 =>
              refine LnOp.line 1 rfl rfl (fun A va w' hF hT hJ hu hd => ?_)
              have x1 : A.eval (.tmp 121) = va 21 := hT 121 21 (by simp) rfl
              have hJ' : ApJ Elt.ps 50 (w.heap.size) (0) (Value.ownBlock (.slice ad P.length ko)) (W9) (P) [(⟨sn, (P.length : Int) + 1, false, x.reads, x.writes, jo⟩ : Ps)] [va 21, A.eval (.tmp 121)] w' := ⟨fun u hu => by obtain rfl := List.mem_singleton.1 hu; exact x1, hJ.2⟩
              exact BigFrame.wp_assign _ rfl ⟨_, rfl, hJ', grownB (Below.refl _ _) _⟩
            case fin =>
              intro vs1 W9 hJ hG
              obtain ⟨hsame, hg9, ad9, c9, e9, hO9⟩ := hJ
              have ea := hsame _ (List.mem_singleton.2 rfl)
              obtain ⟨L9, hL9⟩ : ∃ L9, L9 = (P ++ [(⟨sn, (P.length : Int) + 1, false, x.reads, x.writes, jo⟩ : Ps)]).length := ⟨_, rfl⟩
              rw [← hL9] at e9 hO9
              replace hL9 := Lib.hid hL9
              have g0 : vs1 0 = .slice ad P.length ko := hG 0 (by decide) rfl
              have g1 : vs1 1 = .int .i64 sn := hG 1 (by decide) rfl
              have g2 : vs1 2 = .int .i64 ((P.length : Int) + 1) := hG 2 (by decide) rfl
              have g3 : vs1 3 = .slice (some ⟨b1, o1, none⟩) l.length cx := hG 3 (by decide) rfl
              have g4 : vs1 4 = .int .i64 (i : Int) := hG 4 (by decide) rfl
              have g5 : vs1 5 = .pointer (some ⟨b1, o1 + i * 5, none⟩) := hG 5 (by decide) rfl
              have g6 : vs1 6 = .pointer (some ⟨b1, o1 + i * 5 + 1, none⟩) := hG 6 (by decide) rfl
              have g7 : vs1 7 = .bool false := hG 7 (by decide) rfl
              have g8 : vs1 8 = .slice (some ⟨b1, o1, none⟩) l.length cx := hG 8 (by decide) rfl
              have g9 : vs1 9 = .int .i64 (i : Int) := hG 9 (by decide) rfl
              have g10 : vs1 10 = .pointer (some ⟨b1, o1 + i * 5, none⟩) := hG 10 (by decide) rfl
              have g11 : vs1 11 = .pointer (some ⟨b1, o1 + i * 5 + 2, none⟩) := hG 11 (by decide) rfl
              have g12 : vs1 12 = .slice A1 x.reads.length A2 := hG 12 (by decide) rfl
              have g13 : vs1 13 = .slice (some ⟨b1, o1, none⟩) l.length cx := hG 13 (by decide) rfl
              have g14 : vs1 14 = .int .i64 (i : Int) := hG 14 (by decide) rfl
              have g15 : vs1 15 = .pointer (some ⟨b1, o1 + i * 5, none⟩) := hG 15 (by decide) rfl
              have g16 : vs1 16 = .pointer (some ⟨b1, o1 + i * 5 + 3, none⟩) := hG 16 (by decide) rfl
              have g17 : vs1 17 = .slice A3 x.writes.length A4 := hG 17 (by decide) rfl
              have g18 : vs1 18 = .bool jo := hG 18 (by decide) rfl
              clear hG hsame
              simp only [putAll, ea, e9, g0, g1, g2, g3, g4, g5, g6, g7, g8, g9, g10, g11, g12, g13, g14, g15, g16, g17, g18]
              clear ea e9 g0 g1 g2 g3 g4 g5 g6 g7 g8 g9 g10 g11 g12 g13 g14 g15 g16 g17 g18
              go_simp
              have q9 : Below w.heap.size w W9 := q.grown hg9 q.size fun k hk => (hrr k hk).1
              clear hO hk1 hk2 hg9 q c1 c2 c3
              go_wp2_with fail
              go_roundw
              case rel =>
                obtain rfl := hL9.out
                exact ⟨i + 1, _, ad9, c9, by go_num, by omega, rfl, hO9, hG.out.snoc rfl hs2 (by intro h; cases h) (fun _ => ⟨_, hj.out⟩), fun p hp => by
                  rcases List.mem_append.1 hp with h | h
                  · exact hPs.out p h
                  · obtain rfl := List.mem_singleton.1 h
                    exact hx.out, by rw [List.length_append, List.length_singleton]; omega, q9⟩
              case measure => simp [intOf]; omega
    · obtain rfl : i = l.length := by omega
      have di : decide ((l.length : Int) < (l.length : Int)) = false := decide_eq_false (by omega)
      go_wp2_with fail
      go_ret
      exact ⟨P, _, _, rfl, hG.out, hPi, hO.rdL.weak fun _ _ => trivial, q⟩
end Go.Proofs.Ytobelnedhlepaaa
namespace Go.Proofs.Ytobelnedhlepaaa
open Go.ChangeShapes Go.WideShapes Go.ChangeAt Go.RowKit Go.Deep Go.Joins
section
variable {P : Program} {H : Type} {enc : TypeId × Value → H} {w : World} {base : Nat} {spare : Nat → Bool} {held : Bool}
theorem trod_struct5 {t : TypeId} {f0 f1 f2 f3 f4 : Field} {fuel : Nat} {cs : List Value} {x : DataW H × List MemPlace} (ht : P.underlying t = some (.struct #[f0, f1, f2, f3, f4])) (h : DataW.trod enc P w base spare held fuel t cs = some x) :
    ∃ y0 y1 y2 y3 y4 n, cs.length = P.cellsOf t ∧ DataW.trod enc P w base spare held n f0.type ((cs.drop f0.offset).take (P.cellsOf f0.type)) = some y0 ∧ DataW.trod enc P w base spare held n f1.type ((cs.drop f1.offset).take (P.cellsOf f1.type)) = some y1 ∧ DataW.trod enc P w base spare held n f2.type ((cs.drop f2.offset).take (P.cellsOf f2.type)) = some y2 ∧
      DataW.trod enc P w base spare held n f3.type ((cs.drop f3.offset).take (P.cellsOf f3.type)) = some y3 ∧ DataW.trod enc P w base spare held n f4.type ((cs.drop f4.offset).take (P.cellsOf f4.type)) = some y4 := by
  obtain ⟨xs, n, _, rfl, hl, hlen, hf⟩ := DataW.trod_struct ht h
  match xs, hlen with
  | [y0, y1, y2, y3, y4], _ => exact ⟨y0, y1, y2, y3, y4, n, hl, by simpa using hf 0 f0 rfl, by simpa using hf 1 f1 rfl, by simpa using hf 2 f2 rfl, by simpa using hf 3 f3 rfl, by simpa using hf 4 f4 rfl⟩
end
set_option maxRecDepth 4000 in
theorem opens_ot : Opens Try.prog 43 Elt.one14 := by
  intro H enc w base held fuel cs x h
  obtain ⟨y0, y1, y2, y3, y4, n, hl, h0, h1, h2, h3, h4⟩ := trod_struct5 Try.underlying43 h
  have hc : cs.length = 5 := hl.trans (by kernel_rfl)
  match cs, hc with
  | [c0, c1, c2, c3, c4], _ =>
    obtain ⟨m, hm, _, hw⟩ := DataW.trod_int (by kernel_rfl : Try.prog.underlying 5 = some (.int .u8)) (h0 : DataW.trod enc Try.prog w base (fun _ => true) held n 5 [c0] = some y0)
    obtain ⟨g, hg, _⟩ := DataW.trod_bool (by kernel_rfl : Try.prog.underlying 4 = some .bool) (h1 : DataW.trod enc Try.prog w base (fun _ => true) held n 4 [c1] = some y1)
    obtain ⟨ws, k, hk, hR⟩ := opens_sps (h2 : DataW.trod enc Try.prog w base (fun _ => true) held n 22 [c2] = some y2)
    obtain ⟨ms, k2, hk2, hR2⟩ := opens_wrs (h3 : DataW.trod enc Try.prog w base (fun _ => true) held n 25 [c3] = some y3)
    obtain ⟨m2, hm2, _, hw2⟩ := DataW.trod_int (by kernel_rfl : Try.prog.underlying 5 = some (.int .u8)) (h4 : DataW.trod enc Try.prog w base (fun _ => true) held n 5 [c4] = some y4)
    cases hm; cases hm2; cases hg; cases hk; cases hk2
    have u1 := wf_u8 hw
    have u2 := wf_u8 hw2
    exact ⟨⟨m, g, ws, ms, m2⟩, c2, c3, rfl, hR, hR2, u1.1, u1.2, u2.1, u2.2⟩
theorem opens_ots : Opens Try.prog 41 (Elt.list Elt.one14) := Opens.list (by kernel_rfl) (by kernel_rfl) opens_ot
end Go.Proofs.Ytobelnedhlepaaa
namespace Go.Proofs.Ytobelnedhlepaaa
open Go.RowKit Go.Shelf
def DuoV (W : World) (b : Nat) (t : TypeId) (u v : Value) : Prop := W.heap[b]? = some (.cells #[u, v] t (0, 0))
section
variable {W W' : World} {b : Nat} {t : TypeId} {u v : Value}
theorem DuoV.new (W : World) (t : TypeId) (u v : Value) : DuoV (W.alloc (.cells #[u, v] t)) W.heap.size t u v := by unfold DuoV; simp only [World.alloc, Array.getElem?_push_size]
theorem DuoV.cell0 (h : DuoV W b t u v) : W.cell? ⟨b, 0, none⟩ = some u := by simp [World.cell?, show W.heap[b]? = _ from h]
theorem DuoV.cell1 (h : DuoV W b t u v) : W.cell? ⟨b, 1, none⟩ = some v := by simp [World.cell?, show W.heap[b]? = _ from h]
end
end Go.Proofs.Ytobelnedhlepaaa
namespace Go.Proofs.Ytobelnedhlepaaa
open Go.RowKit Go.Shelf
def shP (l : List Pq) : Prop := l.length ≤ 100 ∧ ∀ x ∈ l, x.key.length ≤ 100 ∧ x.val.length ≤ 100
instance (l : List Pq) : Decidable (shP l) := by unfold shP; exact inferInstance
def fewD (d : Dl) : Prop := d.writes.length ≤ 30 ∧ d.marks.length ≤ 30 ∧ ∀ x ∈ d.writes, x.key.length ≤ 100 ∧ x.val.length ≤ 100
instance (d : Dl) : Decidable (fewD d) := by unfold fewD; exact inferInstance
theorem all_succ {α : Type} {P : α → Prop} {l : List α} {k : Nat} (hlt : k < l.length) (h : ∀ x ∈ l.take k, P x) (hk : P l[k]) : ∀ x ∈ l.take (k + 1), P x := fun x hx => by
  rw [List.take_succ_eq_append_getElem hlt] at hx
  rcases List.mem_append.1 hx with hx | hx
  · exact h x hx
  · simp at hx; rw [hx]; exact hk
set_option maxRecDepth 100000 in
set_option maxHeartbeats 4000000 in
theorem few_any (w : World) {S : Nat → Prop} {v : Value} {d : Dl} (h : RdDl S w v d) :
    Calls Try.prog 10 #[v] w fun e w' => e = .returned (.bool (decide (fewD d))) ∧ Below w.heap.size w w' := by
  obtain ⟨a, c, a2, c2, rfl, hw, hm⟩ := h
  obtain ⟨_, hc1, hm1⟩ := hw.len
  obtain ⟨_, hc2, hm2⟩ := hm.len
  have hl1 : d.writes.length ≤ 9223372036854775807 := by unfold maxLen at hm1; omega
  have hl2 : d.marks.length ≤ 9223372036854775807 := by unfold maxLen at hm2; omega
  obtain ⟨W, hW⟩ : ∃ W, W = w.alloc (.cells #[.slice a d.writes.length c, .slice a2 d.marks.length c2] 33) := ⟨_, rfl⟩
  have q : Below w.heap.size w W := by rw [hW]; exact (Below.refl _ _).alloc (Nat.le_refl _) _
  have hB : DuoV W w.heap.size 33 (.slice a d.writes.length c) (.slice a2 d.marks.length c2) := by rw [hW]; exact DuoV.new _ _ _ _
  go_enter Try.func10, Try.ntmps10
  go_upto_region 1 with (fail)
  rw [← hW]
  clear hW
  have b0 := hB.cell0
  have b1 := hB.cell1
  rcases Nat.lt_or_ge 30 d.writes.length with h1 | h1
  · have d1 : (30 < d.writes.length) = True := eq_true h1
    have HK := Lib.hid (show decide (fewD d) = false from decide_eq_false fun h => by have := h.1; omega)
    go_wp2_with fail
    go_ret
    exact ⟨by rw [HK.out]; rfl, q⟩
  have d1 : (30 < d.writes.length) = False := eq_false (by omega)
  rcases Nat.lt_or_ge 30 d.marks.length with h2 | h2
  · have d2 : (30 < d.marks.length) = True := eq_true h2
    have HK := Lib.hid (show decide (fewD d) = false from decide_eq_false fun h => by have := h.2.1; omega)
    go_wp2_with fail
    go_ret
    exact ⟨by rw [HK.out]; rfl, q⟩
  have d2 : (30 < d.marks.length) = False := eq_false (by omega)
  go_upto_region 4 with (fail)
  go_loopw [3] (fun iv wr => ∃ (k : Nat), iv = .int .i64 k ∧ k ≤ d.writes.length ∧ (∀ x ∈ d.writes.take k, x.key.length ≤ 100 ∧ x.val.length ≤ 100) ∧ Below w.heap.size w wr ∧ DuoV wr w.heap.size 33 (.slice a d.writes.length c) (.slice a2 d.marks.length c2))
    (fun i _ => d.writes.length - (intOf i).toNat)
  case atStart => exact ⟨0, rfl, Nat.zero_le _, by simp, q, hB⟩
  case round =>
    clear q hB b0 b1
    obtain ⟨k, rfl, hkl, hall, q, hB⟩ := hrel
    have b0 := hB.cell0
    have b1 := hB.cell1
    rcases Nat.lt_or_ge k d.writes.length with hlt | hge
    · obtain ⟨b, off, A, C, A2, C2, rfl, hb, c0, c1, c2, c3, hk1, hk2, hw64⟩ := (hw.below q).wr k hlt
      by_cases h3 : 100 < d.writes[k].key.length
      · have d3 : (100 < d.writes[k].key.length) = True := eq_true h3
        have hno := Lib.hid (show decide (fewD d) = false from decide_eq_false fun h => by have := (h.2.2 _ (List.getElem_mem hlt)).1; omega)
        clear hall
        go_wp2_with fail
        go_ret
        exact ⟨by rw [hno.out]; rfl, q⟩
      · have d3 : (100 < d.writes[k].key.length) = False := eq_false h3
        by_cases h4 : 100 < d.writes[k].val.length
        · have d4 : (100 < d.writes[k].val.length) = True := eq_true h4
          have hno := Lib.hid (show decide (fewD d) = false from decide_eq_false fun h => by have := (h.2.2 _ (List.getElem_mem hlt)).2; omega)
          clear hall
          go_wp2_with fail
          go_ret
          exact ⟨by rw [hno.out]; rfl, q⟩
        · have d4 : (100 < d.writes[k].val.length) = False := eq_false h4
          have hall2 := Lib.hid (all_succ hlt hall ⟨by omega, by omega⟩)
          clear hall
          go_wp2_with fail
          go_roundw
          case rel => exact ⟨k + 1, by go_num, by omega, hall2.out, q, hB⟩
          case measure => simp [intOf]; omega
    · obtain rfl : k = d.writes.length := by omega
      rw [List.take_length] at hall
      have hno := Lib.hid (show decide (fewD d) = true from decide_eq_true ⟨h1, h2, hall⟩)
      clear hall
      go_wp2_with fail
      go_ret
      exact ⟨by rw [hno.out]; rfl, q⟩
end Go.Proofs.Ytobelnedhlepaaa
namespace Go.Proofs.Ytobelnedhlepaaa
open Go.RowKit Go.Shelf
set_option maxRecDepth 100000 in
set_option maxHeartbeats 8000000 in
theorem rOneP_any (w : World) {S S2 : Nat → Prop} {u v : Value} {x y : Ps} (hx : RdPs S w u x) (hy : RdPs S2 w v y) :
    Calls Try.prog 32 #[u, v] w fun e w' => e = .returned (.bool (decide (x = y))) ∧ Below w.heap.size w w' := by
  obtain ⟨a1, a2, a3, a4, rfl, hxr, hxw, _⟩ := hx
  obtain ⟨b1, b2, b3, b4, rfl, hyr, hyw, _⟩ := hy
  obtain ⟨W, hW, q, Bx, By, hsz⟩ := spBoxes2 w 50 50 [.int .i64 x.snap, .int .i64 x.stamp, .bool x.held, .slice a1 x.reads.length a2, .slice a3 x.writes.length a4, .bool x.out] [.int .i64 y.snap, .int .i64 y.stamp, .bool y.held, .slice b1 y.reads.length b2, .slice b3 y.writes.length b4, .bool y.out]
  clear hsz
  go_enter Try.func32, Try.ntmps32
  go_upto_region 1 with (fail)
  rw [show (w.alloc (.cells #[.int .i64 x.snap, .int .i64 x.stamp, .bool x.held, .slice a1 x.reads.length a2, .slice a3 x.writes.length a4, .bool x.out] 50)).alloc (.cells #[.int .i64 y.snap, .int .i64 y.stamp, .bool y.held, .slice b1 y.reads.length b2, .slice b3 y.writes.length b4, .bool y.out] 50) = W from hW.symm]
  clear hW
  have c3 := Bx.cell (i := 3) rfl
  have d3 := By.cell (i := 3) rfl
  go_wp2_with fail
  refine (rSame_any W (hxr.below q) (hyr.below q)).mono ?_
  rintro e w1 ⟨rfl, hb⟩
  clear c3 d3
  replace Bx := Bx.below hb Bx.lt
  replace By := By.below hb By.lt
  replace q := q.trans (hb.mono q.size)
  clear hb
  by_cases h0 : x.reads = y.reads
  case neg =>
    have HK := Lib.hid (show decide (x = y) = false from decide_eq_false fun h => h0 (by rw [h]))
    rw [decide_eq_false h0]
    clear h0
    go_wp2_with fail
    go_ret
    exact ⟨by first | (rw [HK.out]; done) | (rw [HK.out]; rfl), q⟩
  rw [decide_eq_true h0]
  have c4 := Bx.cell (i := 4) rfl
  have d4 := By.cell (i := 4) rfl
  go_wp2_with fail
  refine (refWrites_any w1 (hxw.below q) (hyw.below q)).mono ?_
  rintro e w2 ⟨rfl, hb⟩
  clear c4 d4
  replace Bx := Bx.below hb Bx.lt
  replace By := By.below hb By.lt
  replace q := q.trans (hb.mono q.size)
  clear hb
  by_cases h1 : x.writes = y.writes
  case neg =>
    have HK := Lib.hid (show decide (x = y) = false from decide_eq_false fun h => h1 (by rw [h]))
    rw [decide_eq_false h1]
    clear h0 h1
    go_wp2_with fail
    go_ret
    exact ⟨by first | (rw [HK.out]; done) | (rw [HK.out]; rfl), q⟩
  rw [decide_eq_true h1]
  have c0 := Bx.cell (i := 0) rfl
  have c1 := Bx.cell (i := 1) rfl
  have c2 := Bx.cell (i := 2) rfl
  have c5 := Bx.cell (i := 5) rfl
  have d0 := By.cell (i := 0) rfl
  have d1 := By.cell (i := 1) rfl
  have d2 := By.cell (i := 2) rfl
  have d5 := By.cell (i := 5) rfl
  by_cases h2 : x.snap = y.snap
  · have da2 : (x.snap == y.snap) = true := beq_iff_eq.2 h2
    have db2 : decide (x.snap = y.snap) = true := decide_eq_true h2
    by_cases h3 : x.stamp = y.stamp
    · have da3 : (x.stamp == y.stamp) = true := beq_iff_eq.2 h3
      have db3 : decide (x.stamp = y.stamp) = true := decide_eq_true h3
      by_cases h4 : x.held = y.held
      · have da4 : (x.held == y.held) = true := beq_iff_eq.2 h4
        have db4 : decide (x.held = y.held) = true := decide_eq_true h4
        by_cases h5 : x.out = y.out
        · have da5 : (x.out == y.out) = true := beq_iff_eq.2 h5
          have db5 : decide (x.out = y.out) = true := decide_eq_true h5
          have HK := Lib.hid (show decide (x = y) = true from decide_eq_true (by cases x; cases y; simp_all))
          clear h0 h1 h2 h3 h4 h5
          go_wp2_with fail
          go_ret
          exact ⟨by first | (rw [HK.out]; done) | (rw [HK.out]; rfl), q⟩
        · have HK := Lib.hid (show decide (x = y) = false from decide_eq_false fun h => h5 (by rw [h]))
          have da5 : (x.out == y.out) = false := beq_eq_false_iff_ne.2 h5
          have db5 : decide (x.out = y.out) = false := decide_eq_false h5
          clear h0 h1 h2 h3 h4 h5
          go_wp2_with fail
          go_ret
          exact ⟨by first | (rw [HK.out]; done) | (rw [HK.out]; rfl), q⟩
      · have HK := Lib.hid (show decide (x = y) = false from decide_eq_false fun h => h4 (by rw [h]))
        have da4 : (x.held == y.held) = false := beq_eq_false_iff_ne.2 h4
        have db4 : decide (x.held = y.held) = false := decide_eq_false h4
        clear h0 h1 h2 h3 h4
        go_wp2_with fail
        go_ret
        exact ⟨by first | (rw [HK.out]; done) | (rw [HK.out]; rfl), q⟩
    · have HK := Lib.hid (show decide (x = y) = false from decide_eq_false fun h => h3 (by rw [h]))
      have da3 : (x.stamp == y.stamp) = false := beq_eq_false_iff_ne.2 h3
      have db3 : decide (x.stamp = y.stamp) = false := decide_eq_false h3
      clear h0 h1 h2 h3
      go_wp2_with fail
      go_ret
      exact ⟨by first | (rw [HK.out]; done) | (rw [HK.out]; rfl), q⟩
  · have HK := Lib.hid (show decide (x = y) = false from decide_eq_false fun h => h2 (by rw [h]))
    have da2 : (x.snap == y.snap) = false := beq_eq_false_iff_ne.2 h2
    have db2 : decide (x.snap = y.snap) = false := decide_eq_false h2
    clear h0 h1 h2
    go_wp2_with fail
    go_ret
    exact ⟨by first | (rw [HK.out]; done) | (rw [HK.out]; rfl), q⟩
set_option maxRecDepth 100000 in
set_option maxHeartbeats 8000000 in
theorem rAllP_any (w : World) {S S2 : Nat → Prop} {a a2 : Option Addr} {n cx n2 cy : Nat} {l m : List Ps} (hl : RdL Elt.ps S w (.slice a n cx) l) (hm : RdL Elt.ps S2 w (.slice a2 n2 cy) m) :
    Calls Try.prog 14 #[.slice a n cx, .slice a2 n2 cy] w fun e w' => e = .returned (.bool (decide (l = m))) ∧ Below w.heap.size w w' := by
  obtain ⟨rfl, hnc, hcm⟩ := hl.len
  have hlm : l.length ≤ 9223372036854775807 := by unfold maxLen at hcm; omega
  obtain ⟨rfl, hnc2, hcm2⟩ := hm.len
  have hmm : m.length ≤ 9223372036854775807 := by unfold maxLen at hcm2; omega
  have q := Below.refl w.heap.size w
  have eO : ∀ args w, (callFunc 32 args).run Try.prog w = .ok (.enter 32 args) w := enters_of Try.func32 (by kernel_rfl) rfl
  clear hnc hnc2 hcm hcm2
  go_enter Try.func14, Try.ntmps14
  by_cases hlen : l.length = m.length
  case neg =>
    have d1 : ((l.length : Int) == (m.length : Int)) = false := beq_eq_false_iff_ne.2 (by omega)
    have d2 : (l.length == m.length) = false := beq_eq_false_iff_ne.2 hlen
    have d3 : ((l.length : Int) != (m.length : Int)) = true := bne_iff_ne.2 (by omega)
    have HK := Lib.hid (show decide (l = m) = false from decide_eq_false fun h => hlen (by rw [h]))
    clear hlen
    go_wp2_with fail
    go_ret
    exact ⟨by first | (rw [HK.out]; done) | (rw [HK.out]; rfl), q⟩
  have d1 : ((l.length : Int) == (m.length : Int)) = true := beq_iff_eq.2 (by omega)
  have d2 : (l.length == m.length) = true := beq_iff_eq.2 hlen
  have d3 : ((l.length : Int) != (m.length : Int)) = false := by rw [bne, d1]; rfl
  replace hlen := Lib.hid hlen
  go_upto_region 4 with (fail)
  clear d1 d2 d3
  go_loopw [5] (fun iv wr => ∃ (k : Nat), iv = .int .i64 k ∧ k ≤ l.length ∧ l.take k = m.take k ∧ Below w.heap.size w wr)
    (fun i _ => l.length - (intOf i).toNat)
  case atStart => exact ⟨0, rfl, Nat.zero_le _, by simp, q⟩
  case round =>
    clear q
    obtain ⟨k, rfl, hkl, hall, q⟩ := hrel
    replace hall := Lib.hid hall
    rcases Nat.lt_or_ge k l.length with hlt | hge
    · have hltm : k < m.length := by have := hlen.out; omega
      have dk : decide ((k : Int) < (l.length : Int)) = true := decide_eq_true (by omega)
      obtain ⟨g1, o1, A1, A2, A3, A4, rfl, _, hhc, hk1, hk2, hw64⟩ := (hl.below q).ps k hlt
      obtain ⟨g2, o2, B1, B2, B3, B4, rfl, _, hhd, hk3, hk4, hw65⟩ := (hm.below q).ps k hltm
      have hx : RdPs S wr (.agg #[.int .i64 l[k].snap, .int .i64 l[k].stamp, .bool l[k].held, .slice A1 l[k].reads.length A2, .slice A3 l[k].writes.length A4, .bool l[k].out]) l[k] := ⟨_, _, _, _, rfl, hk1, hk2, hw64⟩
      have hy : RdPs S2 wr (.agg #[.int .i64 m[k].snap, .int .i64 m[k].stamp, .bool m[k].held, .slice B1 m[k].reads.length B2, .slice B3 m[k].writes.length B4, .bool m[k].out]) m[k] := ⟨_, _, _, _, rfl, hk3, hk4, hw65⟩
      have hyes := Lib.hid (fun he : l[k] = m[k] => take_bothS hlt hltm hall.out he)
      have hno := Lib.hid (fun he : l[k] ≠ m[k] => show decide (l = m) = false from decide_eq_false fun h => he (by subst h; rfl))
      replace hhc := cells6 hhc
      replace hhd := cells6 hhd
      obtain ⟨x, ex⟩ : ∃ x, x = l[k] := ⟨_, rfl⟩
      obtain ⟨y, ey⟩ : ∃ y, y = m[k] := ⟨_, rfl⟩
      rw [← ex] at hhc hx hyes hno
      rw [← ey] at hhd hy hyes hno
      clear hk1 hk2 hk3 hk4 ex ey hw64 hw65 hall
      go_upto_region 6 with (fail)
      refine wp_region_gsg (by kernel_rfl) (by kernel_rfl) [sgEq (.slice (some ⟨g1, o1, none⟩) l.length cx), sgEq (.int .i64 (k : Int)), sgEq (.pointer (some ⟨g1, o1 + k * 6, none⟩)), sgEq (.agg #[.int .i64 x.snap, .int .i64 x.stamp, .bool x.held, .slice A1 x.reads.length A2, .slice A3 x.writes.length A4, .bool x.out]), sgEq (.slice (some ⟨g2, o2, none⟩) m.length cy), sgEq (.int .i64 (k : Int)), sgEq (.pointer (some ⟨g2, o2 + k * 6, none⟩)), sgEq (.agg #[.int .i64 y.snap, .int .i64 y.stamp, .bool y.held, .slice B1 y.reads.length B2, .slice B3 y.writes.length B4, .bool y.out]), sgEq (.bool (decide (x = y))), sgEq (.bool (decide (x = y)))]
        ⟨?o0, ?o1, ?o2, ?o3, ?o4, ?o5, ?o6, ?o7, ?o8, ?o9, trivial⟩ ?fin
      case o0 =>
        refine GdOp.plain rfl (fun A vs w' hF hT hb hd => ?_)
        have e1 : A.eval (.tmp 0) = .slice (some ⟨g1, o1, none⟩) l.length cx := hF 0 rfl
        exact BigFrame.wp_move _ rfl ⟨_, rfl, e1, Below.refl _ _⟩
      case o1 =>
        refine GdOp.plain rfl (fun A vs w' hF hT hb hd => ?_)
        have e1 : A.eval (.tmp 5) = .int .i64 (k : Int) := hF 5 rfl
        exact BigFrame.wp_move _ rfl ⟨_, rfl, e1, Below.refl _ _⟩
      case o2 =>
        refine GdOp.plain rfl (fun A vs w' hF hT hb hd => ?_)
        have e1 : A.eval (.tmp 18) = .slice (some ⟨g1, o1, none⟩) l.length cx := (hT 18 0 (by simp) rfl).trans (hd ⟨0, .data⟩ (by simp) rfl)
        have e2 : A.eval (.tmp 19) = .int .i64 (k : Int) := (hT 19 1 (by simp) rfl).trans (hd ⟨1, .data⟩ (by simp) rfl)
        exact wp_ixN (e := 50) rfl (by kernel_rfl) (by kernel_rfl) (e1) (e2) rfl (by omega) ⟨_, rfl, rfl, Below.refl _ _⟩
      case o3 =>
        refine GdOp.plain rfl (fun A vs w' hF hT hb hd => ?_)
        have e1 : A.eval (.tmp 20) = .pointer (some ⟨g1, o1 + k * 6, none⟩) := (hT 20 2 (by simp) rfl).trans (hd ⟨2, .data⟩ (by simp) rfl)
        exact wp_loadN (us := [.int .i64 x.snap, .int .i64 x.stamp, .bool x.held, .slice A1 x.reads.length A2, .slice A3 x.writes.length A4, .bool x.out]) psS rfl e1 (fun j u hj => (hb.cell (p := ⟨_, _, none⟩) (cell_lt (hhc j u hj))).trans (hhc j u hj)) ⟨_, rfl, rfl, Below.refl _ _⟩
      case o4 =>
        refine GdOp.plain rfl (fun A vs w' hF hT hb hd => ?_)
        have e1 : A.eval (.tmp 1) = .slice (some ⟨g2, o2, none⟩) m.length cy := hF 1 rfl
        exact BigFrame.wp_move _ rfl ⟨_, rfl, e1, Below.refl _ _⟩
      case o5 =>
        refine GdOp.plain rfl (fun A vs w' hF hT hb hd => ?_)
        have e1 : A.eval (.tmp 5) = .int .i64 (k : Int) := hF 5 rfl
        exact BigFrame.wp_move _ rfl ⟨_, rfl, e1, Below.refl _ _⟩
      case o6 =>
        refine GdOp.plain rfl (fun A vs w' hF hT hb hd => ?_)
        have e1 : A.eval (.tmp 22) = .slice (some ⟨g2, o2, none⟩) m.length cy := (hT 22 4 (by simp) rfl).trans (hd ⟨4, .data⟩ (by simp) rfl)
        have e2 : A.eval (.tmp 23) = .int .i64 (k : Int) := (hT 23 5 (by simp) rfl).trans (hd ⟨5, .data⟩ (by simp) rfl)
        exact wp_ixN (e := 50) rfl (by kernel_rfl) (by kernel_rfl) (e1) (e2) rfl (by omega) ⟨_, rfl, rfl, Below.refl _ _⟩
      case o7 =>
        refine GdOp.plain rfl (fun A vs w' hF hT hb hd => ?_)
        have e1 : A.eval (.tmp 24) = .pointer (some ⟨g2, o2 + k * 6, none⟩) := (hT 24 6 (by simp) rfl).trans (hd ⟨6, .data⟩ (by simp) rfl)
        exact wp_loadN (us := [.int .i64 y.snap, .int .i64 y.stamp, .bool y.held, .slice B1 y.reads.length B2, .slice B3 y.writes.length B4, .bool y.out]) psS rfl e1 (fun j u hj => (hb.cell (p := ⟨_, _, none⟩) (cell_lt (hhd j u hj))).trans (hhd j u hj)) ⟨_, rfl, rfl, Below.refl _ _⟩
      case o8 =>
        refine GdOp.plain rfl (fun A vs w' hF hT hb hd => ?_)
        have e1 : A.eval (.tmp 21) = .agg #[.int .i64 x.snap, .int .i64 x.stamp, .bool x.held, .slice A1 x.reads.length A2, .slice A3 x.writes.length A4, .bool x.out] := (hT 21 3 (by simp) rfl).trans (hd ⟨3, .data⟩ (by simp) rfl)
        have e2 : A.eval (.tmp 25) = .agg #[.int .i64 y.snap, .int .i64 y.stamp, .bool y.held, .slice B1 y.reads.length B2, .slice B3 y.writes.length B4, .bool y.out] := (hT 25 7 (by simp) rfl).trans (hd ⟨7, .data⟩ (by simp) rfl)
        refine wp_callFn rfl eO (args := #[.agg #[.int .i64 x.snap, .int .i64 x.stamp, .bool x.held, .slice A1 x.reads.length A2, .slice A3 x.writes.length A4, .bool x.out], .agg #[.int .i64 y.snap, .int .i64 y.stamp, .bool y.held, .slice B1 y.reads.length B2, .slice B3 y.writes.length B4, .bool y.out]]) (by simp only [List.map_toArray, List.map_cons, List.map_nil, e1, e2]) ((rOneP_any w' (hx.below hb) (hy.below hb)).mono ?_)
        rintro e w2 ⟨rfl, hb2⟩
        exact ⟨_, rfl, _, rfl, rfl, hb2⟩
      case o9 =>
        refine GdOp.plain rfl (fun A vs w' hF hT hb hd => ?_)
        have e1 : A.eval (.tmp 26) = .bool (decide (x = y)) := (hT 26 8 (by simp) rfl).trans (hd ⟨8, .data⟩ (by simp) rfl)
        exact BigFrame.wp_assign _ rfl ⟨_, rfl, e1, Below.refl _ _⟩
      case fin =>
      intro vs9 W9 hb9 hG9
      have e0 : vs9 0 = .slice (some ⟨g1, o1, none⟩) l.length cx := hG9 0 (by decide)
      have e1 : vs9 1 = .int .i64 (k : Int) := hG9 1 (by decide)
      have e2 : vs9 2 = .pointer (some ⟨g1, o1 + k * 6, none⟩) := hG9 2 (by decide)
      have e3 : vs9 3 = .agg #[.int .i64 x.snap, .int .i64 x.stamp, .bool x.held, .slice A1 x.reads.length A2, .slice A3 x.writes.length A4, .bool x.out] := hG9 3 (by decide)
      have e4 : vs9 4 = .slice (some ⟨g2, o2, none⟩) m.length cy := hG9 4 (by decide)
      have e5 : vs9 5 = .int .i64 (k : Int) := hG9 5 (by decide)
      have e6 : vs9 6 = .pointer (some ⟨g2, o2 + k * 6, none⟩) := hG9 6 (by decide)
      have e7 : vs9 7 = .agg #[.int .i64 y.snap, .int .i64 y.stamp, .bool y.held, .slice B1 y.reads.length B2, .slice B3 y.writes.length B4, .bool y.out] := hG9 7 (by decide)
      have e8 : vs9 8 = .bool (decide (x = y)) := hG9 8 (by decide)
      have e9 : vs9 9 = .bool (decide (x = y)) := hG9 9 (by decide)
      simp only [putAll, e0, e1, e2, e3, e4, e5, e6, e7, e8, e9]
      clear hG9 e0 e1 e2 e3 e4 e5 e6 e7 e8 e9
      replace q := q.trans (hb9.mono q.size)
      clear hb9
      go_simp
      clear hx hy hhc hhd
      by_cases he : x = y
      · rw [decide_eq_true he]
        have hall2 := Lib.hid (hyes.out he)
        clear he hyes hno
        go_wp2_with fail
        go_roundw
        case rel => exact ⟨k + 1, by go_num, by omega, hall2.out, q⟩
        case measure => simp [intOf]; omega
      · rw [decide_eq_false he]
        have HK := Lib.hid (hno.out he)
        clear he hyes hno
        go_wp2_with fail
        go_ret
        exact ⟨by first | (rw [HK.out]; done) | (rw [HK.out]; rfl), q⟩
    · obtain rfl : k = l.length := by omega
      have dk : decide ((l.length : Int) < (l.length : Int)) = false := decide_eq_false (by omega)
      have HK := Lib.hid (show decide (l = m) = true from decide_eq_true (by have h := hall.out; rw [List.take_length] at h; rw [hlen.out, List.take_length] at h; exact h))
      clear hall
      go_wp2_with fail
      go_ret
      exact ⟨by first | (rw [HK.out]; done) | (rw [HK.out]; rfl), q⟩
set_option maxRecDepth 100000 in
set_option maxHeartbeats 8000000 in
theorem rFewP_any (w : World) {S S2 : Nat → Prop} {a a2 : Option Addr} {n cx n2 cy : Nat} {l : List Ps} {lv : List Lv} (hl : RdL Elt.ps S w (.slice a n cx) l) (hm : RdL Elt.lv S2 w (.slice a2 n2 cy) lv) :
    Calls Try.prog 11 #[.slice a n cx, .slice a2 n2 cy] w fun e w' => e = .returned (.bool (decide (fewPs l lv))) ∧ Below w.heap.size w w' := by
  obtain ⟨rfl, hnc, hcm⟩ := hl.len
  have hlm : l.length ≤ 9223372036854775807 := by unfold maxLen at hcm; omega
  obtain ⟨rfl, hnc2, hcm2⟩ := hm.len
  have hmm : lv.length ≤ 9223372036854775807 := by unfold maxLen at hcm2; omega
  have q := Below.refl w.heap.size w
  clear hnc hnc2 hcm hcm2
  go_enter Try.func11, Try.ntmps11
  rcases Nat.lt_or_ge 30 l.length with h1 | h1
  · have d1 : decide ((30 : Int) < (l.length : Int)) = true := decide_eq_true (by omega)
    have HK := Lib.hid (show decide (fewPs l lv) = false from decide_eq_false fun h => by have := h.1; omega)
    go_wp2_with fail
    go_ret
    exact ⟨by first | (rw [HK.out]; done) | (rw [HK.out]; rfl), q⟩
  have d1 : decide ((30 : Int) < (l.length : Int)) = false := decide_eq_false (by omega)
  rcases Nat.lt_or_ge 30 lv.length with h2 | h2
  · have d2 : decide ((30 : Int) < (lv.length : Int)) = true := decide_eq_true (by omega)
    have HK := Lib.hid (show decide (fewPs l lv) = false from decide_eq_false fun h => by have := h.2.1; omega)
    go_wp2_with fail
    go_ret
    exact ⟨by first | (rw [HK.out]; done) | (rw [HK.out]; rfl), q⟩
  have d2 : decide ((30 : Int) < (lv.length : Int)) = false := decide_eq_false (by omega)
  go_upto_region 4 with (fail)
  clear d1 d2
  go_loopw [5] (fun iv wr => ∃ (k : Nat), iv = .int .i64 k ∧ k ≤ l.length ∧ (∀ p ∈ l.take k, fewS p.reads ∧ (p.writes.length ≤ 30 ∧ ∀ x ∈ p.writes, x.key.length ≤ 100 ∧ x.val.length ≤ 100) ∧ p.reads.length ≤ 30) ∧ Below w.heap.size w wr)
    (fun i _ => l.length - (intOf i).toNat)
  case atStart => exact ⟨0, rfl, Nat.zero_le _, by simp, q⟩
  case round =>
    clear q
    obtain ⟨k, rfl, hkl, hall, q⟩ := hrel
    replace hall := Lib.hid hall
    rcases Nat.lt_or_ge k l.length with hlt | hge
    · have dk : decide ((k : Int) < (l.length : Int)) = true := decide_eq_true (by omega)
      obtain ⟨g1, o1, A1, A2, A3, A4, rfl, _, ⟨_, _, _, c3, c4, _⟩, hk1, hk2, _⟩ := (hl.below q).ps k hlt
      have hmem := Lib.hid (List.getElem_mem hlt)
      have m1 : l[k].reads.length ≤ 9223372036854775807 := by have := hk1.len; unfold maxLen at this; omega
      go_wp2_with fail
      refine (rFew_any wr hk1).mono ?_
      rintro e w1 ⟨rfl, hb⟩
      have e3 := (hb.cell (p := ⟨_, _, none⟩) (cell_lt c3)).trans c3
      have e4 := (hb.cell (p := ⟨_, _, none⟩) (cell_lt c4)).trans c4
      replace hk2 := hk2.below hb
      replace q := q.trans (hb.mono q.size)
      clear c3 c4 hb hk1
      go_wp2_with fail
      refine (few_any w1 (d := ⟨l[k].writes, []⟩) (S := S) ⟨A3, A4, none, 0, rfl, hk2, RdL.nil _ _ _⟩).mono ?_
      rintro e w2 ⟨rfl, hb⟩
      have c3 := (hb.cell (p := ⟨_, _, none⟩) (cell_lt e3)).trans e3
      replace q := q.trans (hb.mono q.size)
      clear e3 e4 hb hk2
      by_cases f1 : fewS l[k].reads
      case neg =>
        rw [decide_eq_false f1]
        have HK := Lib.hid (show decide (fewPs l lv) = false from decide_eq_false fun h => f1 (h.2.2.1 _ hmem.out).1)
        clear f1 hall
        go_wp2_with fail
        go_ret
        exact ⟨by first | (rw [HK.out]; done) | (rw [HK.out]; rfl), q⟩
      rw [decide_eq_true f1]
      by_cases f2 : fewD ⟨l[k].writes, []⟩
      case neg =>
        rw [decide_eq_false f2]
        have HK := Lib.hid (show decide (fewPs l lv) = false from decide_eq_false fun h => f2 ⟨(h.2.2.1 _ hmem.out).2.1.1, Nat.zero_le _, (h.2.2.1 _ hmem.out).2.1.2⟩)
        clear f1 f2 hall
        go_wp2_with fail
        go_ret
        exact ⟨by first | (rw [HK.out]; done) | (rw [HK.out]; rfl), q⟩
      rw [decide_eq_true f2]
      rcases Nat.lt_or_ge 30 l[k].reads.length with h3 | h3
      · have d3 : decide ((30 : Int) < (l[k].reads.length : Int)) = true := decide_eq_true (by omega)
        have HK := Lib.hid (show decide (fewPs l lv) = false from decide_eq_false fun h => by have := (h.2.2.1 _ hmem.out).2.2; omega)
        clear f1 f2 hall
        go_wp2_with fail
        go_ret
        exact ⟨by first | (rw [HK.out]; done) | (rw [HK.out]; rfl), q⟩
      have d3 : decide ((30 : Int) < (l[k].reads.length : Int)) = false := decide_eq_false (by omega)
      have hall2 := Lib.hid (all_snoc (P := fun p : Ps => fewS p.reads ∧ (p.writes.length ≤ 30 ∧ ∀ x ∈ p.writes, x.key.length ≤ 100 ∧ x.val.length ≤ 100) ∧ p.reads.length ≤ 30) hlt hall.out ⟨f1, ⟨f2.1, f2.2.2⟩, h3⟩)
      clear f1 f2 hall hmem
      go_wp2_with fail
      go_roundw
      case rel => exact ⟨k + 1, by go_num, by omega, hall2.out, q⟩
      case measure => simp [intOf]; omega
    · obtain rfl : k = l.length := by omega
      have dk : decide ((l.length : Int) < (l.length : Int)) = false := decide_eq_false (by omega)
      replace hall := Lib.hid (show ∀ p ∈ l, fewS p.reads ∧ (p.writes.length ≤ 30 ∧ ∀ x ∈ p.writes, x.key.length ≤ 100 ∧ x.val.length ≤ 100) ∧ p.reads.length ≤ 30 from fun p hp => hall.out p (by rw [List.take_length]; exact hp))
      go_upto_region 11 with (fail)
      clear dk
      go_loopw [8] (fun iv wr => ∃ (k : Nat), iv = .int .i64 k ∧ k ≤ lv.length ∧ (∀ p ∈ lv.take k, fewS p.reads ∧ p.reads.length ≤ 30) ∧ Below w.heap.size w wr)
        (fun i _ => lv.length - (intOf i).toNat)
      case atStart => exact ⟨0, rfl, Nat.zero_le _, by simp, q⟩
      case round =>
        clear q
        obtain ⟨k, rfl, hkl, hno, q⟩ := hrel
        replace hno := Lib.hid hno
        rcases Nat.lt_or_ge k lv.length with hlt | hge
        · have dk : decide ((k : Int) < (lv.length : Int)) = true := decide_eq_true (by omega)
          obtain ⟨g1, o1, A1, A2, rfl, _, _, c1, hk1, _⟩ := (hm.below q).lv k hlt
          have hmem := Lib.hid (List.getElem_mem hlt)
          have m1 : lv[k].reads.length ≤ 9223372036854775807 := by have := hk1.len; unfold maxLen at this; omega
          go_wp2_with fail
          refine (rFew_any wr hk1).mono ?_
          rintro e w1 ⟨rfl, hb⟩
          have e1 := (hb.cell (p := ⟨_, _, none⟩) (cell_lt c1)).trans c1
          replace q := q.trans (hb.mono q.size)
          clear c1 hb hk1
          by_cases f1 : fewS lv[k].reads
          case neg =>
            rw [decide_eq_false f1]
            have HK := Lib.hid (show decide (fewPs l lv) = false from decide_eq_false fun h => f1 (h.2.2.2 _ hmem.out).1)
            clear f1 hall
            go_wp2_with fail
            go_ret
            exact ⟨by first | (rw [HK.out]; done) | (rw [HK.out]; rfl), q⟩
          rw [decide_eq_true f1]
          rcases Nat.lt_or_ge 30 lv[k].reads.length with h3 | h3
          · have d3 : decide ((30 : Int) < (lv[k].reads.length : Int)) = true := decide_eq_true (by omega)
            have HK := Lib.hid (show decide (fewPs l lv) = false from decide_eq_false fun h => by have := (h.2.2.2 _ hmem.out).2; omega)
            clear f1 hall
            go_wp2_with fail
            go_ret
            exact ⟨by first | (rw [HK.out]; done) | (rw [HK.out]; rfl), q⟩
          have d3 : decide ((30 : Int) < (lv[k].reads.length : Int)) = false := decide_eq_false (by omega)
          have hn2 := Lib.hid (all_snoc (P := fun p : Lv => fewS p.reads ∧ p.reads.length ≤ 30) hlt hno.out ⟨f1, h3⟩)
          clear f1 hno hmem
          go_wp2_with fail
          go_roundw
          case rel => exact ⟨k + 1, by go_num, by omega, hn2.out, q⟩
          case measure => simp [intOf]; omega
        · obtain rfl : k = lv.length := by omega
          have dk : decide ((lv.length : Int) < (lv.length : Int)) = false := decide_eq_false (by omega)
          have HK := Lib.hid (show decide (fewPs l lv) = true from decide_eq_true ⟨h1, h2, hall.out, fun p hp => hno.out p (by rw [List.take_length]; exact hp)⟩)
          clear hall hno
          go_wp2_with fail
          go_ret
          exact ⟨by first | (rw [HK.out]; done) | (rw [HK.out]; rfl), q⟩
end Go.Proofs.Ytobelnedhlepaaa
