/-
  THE WALKS OF wal's changed, AND OF Sync, Crash, Trim, Texts. Slices of at most a million bytes.
-/
import Derived.RangeFuncBox
import Derived.Shelf.Abstract
import Derived.WalkKit
import Derived.WalkSpells
import Derived.WalkLawsBesides
import Derived.Lib.Hide
import Derived.Deep.Cut
import Derived.Test.YtebilecgmblmfaaProg
import Derived.Test.YtebilecgmblmfaaByte
import Derived.Test.YtebilecgmblmfaaAux
import Derived.Test.YtebilecgmblmfaaCut
import Derived.Test.YtebilecgmblmfaaRyo
import Derived.Test.YtebilecgmblmfaaGuard
import Derived.Test.YtebilecgmblmfaaOps
import Derived.Test.YtebilecgmblmfaaKept
import Derived.Test.YtebilecgmblmfaaLink
import Derived.Test.YtebilecgmblmfaaSink
import Derived.Test.YtebilecgmblmfaaOctB
import Derived.Test.YtebilecgmblmfaaFrmF
import Derived.Test.YtebilecgmblmfaaWalM
import Derived.Test.YtebilecgmblmfaaWalR
import Derived.Test.YtebilecgmblmfaaWalS
import Derived.Test.YtebilecgmblmfaaWalC
import Derived.Test.YtebilecgmblmfaaWalP
namespace Go.Proofs.Ytebilecgmblmfaa
open Go.RowKit Go.Shelf

/-- What changed hands back: a log in new memory, and Z. -/
def ChgEnd (n₀ : Nat) (Z : World → Prop) (w : World) (bs : List UInt8) (s : Int) (e : Ending) (w' : World) : Prop :=
  ∃ a k c, e = .returned (.agg #[.slice a k c, .int .i64 s]) ∧ Rd w'.heap.size w' (.slice a k c) bs ∧ Below n₀ w w' ∧ Z w' ∧ BlkGe w.heap.size a bs
theorem chg_ret {n₀ : Nat} {Z : World → Prop} {w W : World} {g : Nat} {a : Option Addr} {k c : Nat} {bs : List UInt8} {s : Int} {fn : Func} {act : Act} {x y : Value} (hp : PairV W g 24 x y) (hx : NotU8 x) (hy : NotU8 y) (hr : Rd W.heap.size W (.slice a k c) bs) (hq : Below n₀ w W) (hn : n₀ ≤ w.heap.size) (hg : w.heap.size ≤ g) (hZ : ∀ A B, Z A → Below w.heap.size A B → Z B) (h0 : Z W) (hbg : BlkGe w.heap.size a bs) (hd : act.defers = [])
    (hres : PairV ((W.setCell ⟨g, 0, none⟩ (.slice a k c)).setCell ⟨g, 1, none⟩ (.int .i64 s)) g 24 (.slice a k c) (.int .i64 s) → (results fn act.tmps).run Try.prog ((W.setCell ⟨g, 0, none⟩ (.slice a k c)).setCell ⟨g, 1, none⟩ (.int .i64 s)) = .ok (.agg #[.slice a k c, .int .i64 s]) ((W.setCell ⟨g, 0, none⟩ (.slice a k c)).setCell ⟨g, 1, none⟩ (.int .i64 s))) :
    bodyPost Try.prog fn (ChgEnd n₀ Z w bs s) Exit.ret act ((W.setCell ⟨g, 0, none⟩ (.slice a k c)).setCell ⟨g, 1, none⟩ (.int .i64 s)) := by
  have p0 := hp.put0 (.slice a k c)
  refine bodyPost_ret (hres (p0.put1 _)) hd ⟨a, k, c, rfl, ?_, (hq.setCell (p := ⟨g, 0, none⟩) (Nat.le_trans hn hg) _).setCell (p := ⟨g, 1, none⟩) (Nat.le_trans hn hg) _, ?_, hbg⟩
  · have r0 := rd_set hr (Nat.le_refl _) hp hx hy 0 (.slice a k c)
    have r1 := rd_set r0 (by rw [size_set]; exact Nat.le_refl _) p0 (notU8_slice _ _ _) hy 1 (.int .i64 s)
    rw [size_set, size_set]
    exact r1
  · exact hZ _ _ h0 (((Below.refl _ _).setCell (p := ⟨g, 0, none⟩) hg _).setCell (p := ⟨g, 1, none⟩) hg _)

set_option maxRecDepth 100000 in
set_option maxHeartbeats 1000000 in
theorem changed_any (w : World) {B : Nat} {a : Option Addr} {n c : Nat} {bs bs' : List UInt8} {s s' : Int} (hr : Rd B w (.slice a n c) bs) (hB : B ≤ w.heap.size) (hx : bs.length ≤ 1000000) (F : FuncId) (caps : Array Value) (hE : Enters Try.prog F)
    (n₀ : Nat) (hn : n₀ ≤ w.heap.size) (Z : World → Prop) (hZ : ∀ A B, Z A → Below w.heap.size A B → Z B) (hno : ¬ okL bs s → bs' = bs ∧ s' = s ∧ Z w)
    (hF : okL bs s → ∀ (W : World) (g : Nat) (a2 : Option Addr) (k2 c2 : Nat), w.heap.size + 2 ≤ g → Below w.heap.size w W → w.heap.size + 2 ≤ W.heap.size → PairV W g 24 (.slice a2 k2 c2) (.int .i64 s) → Own 5 (w.heap.size + 2) W (.slice a2 k2 c2) bs →
      Calls Try.prog F (#[.pointer (some ⟨g, 0, none⟩)] ++ caps) W fun e W' => e = .returned (.tuple #[]) ∧ Below n₀ W W' ∧ (∀ k, w.heap.size ≤ k → k < w.heap.size + 2 → W'.heap[k]? = W.heap[k]?) ∧ Z W' ∧
        ∃ a3 k3 c3, PairV W' g 24 (.slice a3 k3 c3) (.int .i64 s') ∧ Rd W'.heap.size W' (.slice a3 k3 c3) bs' ∧ BlkGe w.heap.size a3 bs') :
    Calls Try.prog 26 #[.agg #[.slice a n c, .int .i64 s], .func (.func F) #[] caps] w (ChgEnd n₀ Z w bs' s') := by
  obtain ⟨rfl, hnc, hcm⟩ := hr.len
  have hb2 := box2 w 24 (.slice a bs.length c) (.int .i64 s) (.slice none 0 0) (.int .i64 0)
  go_enter Try.func26, Try.ntmps26
  go_upto_region 1 with (fail)
  obtain ⟨pl, pr, q, hsz⟩ := hb2
  generalize (w.alloc (.cells #[.slice a bs.length c, .int .i64 s] 24)).alloc (.cells #[.slice none 0 0, .int .i64 0] 24) = W at *
  refine wp_region_new (by kernel_rfl) (by kernel_rfl) W.heap.size (fun b => W.heap.size ≤ b) 24 7 6 (Nat.le_refl _) (fun _ h => h) [kEq (.pointer (some ⟨w.heap.size, 0, none⟩)), kEq (.slice a bs.length c), kOwn 5 ub_ne W.heap.size bs, kEq (.pointer (some ⟨w.heap.size, 1, none⟩)), kEq (.int .i64 s), kLogO 5 ub_ne W.heap.size bs s, kBox]
    (fun p => ⟨fun w' _ => ∃ b ad k c, p = .pointer (some ⟨b, 0, none⟩) ∧ W.heap.size ≤ b ∧ PairV w' b 24 (.slice ad k c) (.int .i64 s) ∧ Own 5 W.heap.size w' (.slice ad k c) bs, fun A v C ⟨b, ad, k, c, h0, h1, h, hr⟩ hb => ⟨b, ad, k, c, h0, h1, h.below hb h.lt, hr.below hb⟩⟩)
    (by kernel_rfl) ⟨?o0, ?o1, ?o2, ?o3, ?o4, ?o5, ?o6, ?o7, trivial⟩ ?fin
  case o0 =>
    refine GdOpL.plain rfl (fun A vs w' hF hT hR hd => ?_)
    have e1 : A.eval (.tmp 2) = .pointer (some ⟨w.heap.size, 0, none⟩) := hF 2 rfl
    exact wp_fieldA logP rfl (e1) (by omega) ⟨_, rfl, rfl, Below.refl _ _⟩
  case o1 =>
    refine GdOpL.plain rfl (fun A vs w' hF hT hR hd => ?_)
    have e1 : A.eval (.tmp 6) = .pointer (some ⟨w.heap.size, 0, none⟩) := (hT 6 0 (by simp) rfl).trans (hd ⟨0, .data⟩ (by simp) rfl)
    exact wp_ld_slice (e := 5) rfl (e1) (by kernel_rfl) ((hR.pair pl (Nat.not_le.2 pl.lt)).cell0) ⟨_, rfl, rfl, Below.refl _ _⟩
  case o2 =>
    refine GdOpL.plain rfl (fun A vs w' hF hT hR hd => ?_)
    have e1 : A.eval (.tmp 7) = .slice a bs.length c := (hT 7 1 (by simp) rfl).trans (hd ⟨1, .data⟩ (by simp) rfl)
    refine wp_callFn rfl (enters_of Try.func36 (by kernel_rfl) rfl) (args := #[.slice a bs.length c]) (by simp [e1]) ((clone_any w' (hr.below ((q.trans (hR.below.mono q.size)).mono hB)) (Nat.le_trans (Nat.le_trans hB q.size) hR.below.size) hx).mono ?_)
    rintro e w2 ⟨a5, k5, c5, rfl, hF5⟩
    exact ⟨_, rfl, _, rfl, ⟨a5, k5, c5, rfl, hF5.2.to hR.below.size⟩, hF5.1⟩
  case o3 =>
    refine GdOpL.plain rfl (fun A vs w' hF hT hR hd => ?_)
    have e1 : A.eval (.tmp 2) = .pointer (some ⟨w.heap.size, 0, none⟩) := hF 2 rfl
    exact wp_fieldA logP rfl (e1) (by omega) ⟨_, rfl, rfl, Below.refl _ _⟩
  case o4 =>
    refine GdOpL.plain rfl (fun A vs w' hF hT hR hd => ?_)
    have e1 : A.eval (.tmp 9) = .pointer (some ⟨w.heap.size, 1, none⟩) := (hT 9 3 (by simp) rfl).trans (hd ⟨3, .data⟩ (by simp) rfl)
    exact wp_ld_int (k := .i64) rfl (e1) (by kernel_rfl) ((hR.pair pl (Nat.not_le.2 pl.lt)).cell1) ⟨_, rfl, rfl, Below.refl _ _⟩
  case o5 =>
    refine GdOpL.plain rfl (fun A vs w' hF hT hR hd => ?_)
    have e2 : A.eval (.tmp 10) = .int .i64 s := (hT 10 4 (by simp) rfl).trans (hd ⟨4, .data⟩ (by simp) rfl)
    obtain ⟨ad, k, cq, q0, hO⟩ := hd ⟨2, .data⟩ (by simp) rfl
    have e3 : A.eval (.tmp 8) = .slice ad k cq := (hT 8 2 (by simp) rfl).trans q0
    exact wp_buildP logP rfl e3 e2 rfl rfl ⟨_, rfl, ⟨_, _, _, rfl, hO⟩, Below.refl _ _⟩
  case o6 =>
    refine GdOpL.plain rfl (fun A vs w' hF hT hR hd => ?_)
    exact wp_allocP logP rfl ⟨_, rfl, ⟨_, rfl, hR.below.size, ⟨_, _, heap_alloc_self _ _, notU8_slice _ _ _, notU8_int _⟩⟩, (Below.refl _ _).alloc (Nat.le_refl _) _⟩
  case o7 =>
    refine GdOpL.plain rfl (fun A vs w' hF hT hR hd => ?_)
    obtain ⟨b5, q5, hb5, u0, v0, hx5, n1, n2⟩ := (hd ⟨6, .data⟩ (by simp) rfl)
    obtain ⟨a5, k5, c5, q6, hr6⟩ := (hd ⟨5, .data⟩ (by simp) rfl)
    have e3 : A.eval (.tmp 5) = .pointer (some ⟨b5, 0, none⟩) := (hT 5 6 (by simp) rfl).trans q5
    have e4 : A.eval (.tmp 11) = .agg #[.slice a5 k5 c5, .int .i64 s] := (hT 11 5 (by simp) rfl).trans q6
    refine wp_storeP logP rfl e3 e4 rfl rfl _ hx5 (fun w2 hg h2 => ?_)
    have hk : BoxK (fun b => W.heap.size ≤ b) 24 w' w2 := .inr ⟨b5, hb5, hg, ⟨_, _, hx5, n1, n2⟩, ⟨_, _, h2, notU8_slice _ _ _, notU8_int _⟩⟩
    exact ⟨_, rfl, ⟨b5, a5, k5, c5, q5, hb5, h2, own_box ub_ne hr6 hk⟩, hk⟩
  case fin =>
    intro vs w' hR hG
    obtain ⟨x2, y2, z2, e2, _⟩ := hG 2 (by decide)
    obtain ⟨x5, y5, z5, e5, _⟩ := hG 5 (by decide)
    obtain ⟨g, ag, kg, cg, e6, hgW, pg, hO⟩ := hG 7 (by decide)
    have e0 : vs 0 = .pointer (some ⟨w.heap.size, 0, none⟩) := hG 0 (by decide)
    have e1 : vs 1 = .slice a bs.length c := hG 1 (by decide)
    have e3 : vs 3 = .pointer (some ⟨w.heap.size, 1, none⟩) := hG 3 (by decide)
    have e4 : vs 4 = .int .i64 s := hG 4 (by decide)
    simp only [putAll, e0, e1, e3, e4, e2, e5, e6]
    clear hG e0 e1 e3 e4 e2 e5 e6
    go_simp
    have hsg : w.heap.size + 2 ≤ g := by omega
    have hO2 : Own 5 (w.heap.size + 2) w' (.slice ag kg cg) bs := hO.to (by omega)
    replace pl := hR.pair pl (Nat.not_le.2 pl.lt)
    replace pr := hR.pair pr (Nat.not_le.2 pr.lt)
    replace q := q.trans (hR.below.mono q.size)
    have hsw : w.heap.size + 2 ≤ w'.heap.size := by have := hR.below.size; omega
    clear hR hO hgW hsz
    obtain rfl := hO2.len
    have g0 := pg.cell0
    have g1 := pg.cell1
    go_wp2_with fail
    refine (walCheck_any w' hO2.rd).mono ?_
    rintro e w2 ⟨rfl, hb2⟩
    clear g0 g1
    have pg2 := pg.below hb2 pg.lt
    have pr2 := pr.below hb2 pr.lt
    have q2 := q.trans (hb2.mono q.size)
    have hO3 := hO2.below hb2
    have hsw2 : w.heap.size + 2 ≤ w2.heap.size := Nat.le_trans hsw hb2.size
    clear pg pr q hO2 hb2 pl hsw
    have fr0 := pr2.frozen0
    have fr1 := pr2.frozen1
    have rc0 := pr2.cell0
    have rc1 := pr2.cell1
    by_cases hk : okL bs s
    · have hd : decide (okL bs s) = true := decide_eq_true hk
      have hFF := hF hk w2 g ag bs.length cg hsg q2 hsw2 pg2 hO3
      rw [hd]
      clear hk hd hF hno
      clear fr0 fr1 rc0 rc1
      have hEE := hE
      unfold Enters at hEE
      go_wp2_with fail
      refine hFF.mono ?_
      rintro e w3 ⟨rfl, hb3, hk3, hz3, a3, k3, c3, pg3, hr3, hbg3⟩
      have pr3 : PairV w3 (w.heap.size + 1) 24 (.slice none 0 0) (.int .i64 0) := (hk3 _ (by omega) (by omega)).trans pr2
      have q3 := (q2.mono hn).trans hb3
      clear hFF pg2 pr2 q2 hO3 hb3 hk3
      have g0 := pg3.cell0
      have g1 := pg3.cell1
      have fr0 := pr3.frozen0
      have fr1 := pr3.frozen1
      have rc0 := pr3.cell0
      have rc1 := pr3.cell1
      go_wp2_with fail
      exact chg_ret pr3 (notU8_slice _ _ _) (notU8_int _) hr3 q3 hn (by omega) hZ hz3 hbg3 rfl (fun hp => by simp [results, Try.results26, go_sem, hp.cell0, hp.cell1])
    · have hd : decide (okL bs s) = false := decide_eq_false hk
      obtain ⟨rfl, rfl, hz⟩ := hno hk
      have g0 := pg2.cell0
      have g1 := pg2.cell1
      rw [hd]
      clear hk hd hF hno
      go_wp2_with fail
      exact chg_ret pr2 (notU8_slice _ _ _) (notU8_int _) hO3.rd (q2.mono hn) hn (by omega) hZ (hZ _ _ hz q2) (hO3.blk.mono (by omega)) rfl (fun hp => by simp [results, Try.results26, go_sem, hp.cell0, hp.cell1])

/-- What a call that makes a log hands back, its bytes in new memory. -/
def LogNew (w : World) (bs : List UInt8) (s : Int) (e : Ending) (w' : World) : Prop :=
  ∃ a k c, e = .returned (.agg #[.slice a k c, .int .i64 s]) ∧ Rd w'.heap.size w' (.slice a k c) bs ∧ Below w.heap.size w w' ∧ BlkGe w.heap.size a bs
theorem log_ret2 {w W : World} {g : Nat} {a : Option Addr} {k c : Nat} {bs : List UInt8} {s : Int} {fn : Func} {act : Act} {x y : Value} (hp : PairV W g 24 x y) (hx : NotU8 x) (hy : NotU8 y) (hr : Rd W.heap.size W (.slice a k c) bs) (hq : Below w.heap.size w W) (hg : w.heap.size ≤ g) (hbg : BlkGe w.heap.size a bs) (hd : act.defers = [])
    (hres : PairV ((W.setCell ⟨g, 0, none⟩ (.slice a k c)).setCell ⟨g, 1, none⟩ (.int .i64 s)) g 24 (.slice a k c) (.int .i64 s) → (results fn act.tmps).run Try.prog ((W.setCell ⟨g, 0, none⟩ (.slice a k c)).setCell ⟨g, 1, none⟩ (.int .i64 s)) = .ok (.agg #[.slice a k c, .int .i64 s]) ((W.setCell ⟨g, 0, none⟩ (.slice a k c)).setCell ⟨g, 1, none⟩ (.int .i64 s))) :
    bodyPost Try.prog fn (LogNew w bs s) Exit.ret act ((W.setCell ⟨g, 0, none⟩ (.slice a k c)).setCell ⟨g, 1, none⟩ (.int .i64 s)) := by
  have p0 := hp.put0 (.slice a k c)
  refine bodyPost_ret (hres (p0.put1 _)) hd ⟨a, k, c, rfl, ?_, (hq.setCell (p := ⟨g, 0, none⟩) hg _).setCell (p := ⟨g, 1, none⟩) hg _, hbg⟩
  have r0 := rd_set hr (Nat.le_refl _) hp hx hy 0 (.slice a k c)
  have r1 := rd_set r0 (by rw [size_set]; exact Nat.le_refl _) p0 (notU8_slice _ _ _) hy 1 (.int .i64 s)
  rw [size_set, size_set]
  exact r1
theorem own_chg {n g : Nat} {W W' : World} {bs : List UInt8} {s : Int} {e : Ending} {lo : Nat} (h : OwnEnd W g lo bs s e W') (hg : n + 2 ≤ g) (hW : n + 2 ≤ W.heap.size) :
    e = .returned (.tuple #[]) ∧ Below n W W' ∧ (∀ k, n ≤ k → k < n + 2 → W'.heap[k]? = W.heap[k]?) ∧ True ∧ ∃ a3 k3 c3, PairV W' g 24 (.slice a3 k3 c3) (.int .i64 s) ∧ Rd W'.heap.size W' (.slice a3 k3 c3) bs ∧ BlkGe lo a3 bs := by
  obtain ⟨h1, h2, h3⟩ := h
  exact ⟨h1, (Below.refl _ _).grown h2 (by omega) (fun k e => by cases e; omega), fun k _ h5 => h2.block k (by omega) (fun e => by cases e; omega), trivial, h3⟩

set_option maxRecDepth 100000 in
set_option maxHeartbeats 1000000 in
theorem walSync_new (w : World) {B : Nat} {a : Option Addr} {n c : Nat} {bs : List UInt8} {s : Int} (hr : Rd B w (.slice a n c) bs) (hB : B ≤ w.heap.size) (hx : bs.length ≤ 1000000) :
    Calls Try.prog 14 #[.agg #[.slice a n c, .int .i64 s]] w (LogNew w bs (syncN bs s)) := by
  obtain ⟨rfl, hnc, hcm⟩ := hr.len
  have hb2 := box2 w 24 (.slice a bs.length c) (.int .i64 s) (.slice none 0 0) (.int .i64 0)
  go_enter Try.func14, Try.ntmps14
  go_wp2_with fail
  obtain ⟨pl, pr, q, hsz⟩ := hb2
  generalize (w.alloc (.cells #[.slice a bs.length c, .int .i64 s] 24)).alloc (.cells #[.slice none 0 0, .int .i64 0] 24) = W at *
  refine (changed_any (bs' := bs) (s' := syncN bs s) W (hr.below (q.mono hB)) (Nat.le_trans hB q.size) hx 30 #[] (enters_of Try.func30 (by kernel_rfl) rfl) W.heap.size (Nat.le_refl _) (fun _ => True) (fun _ _ _ _ => trivial) (fun hk => ⟨rfl, by unfold syncN; rw [if_neg hk], trivial⟩) (fun hk W2 g a2 k2 c2 hg hb hsz hp hO => ?_)).mono ?_
  · rw [show syncN bs s = ((bs.length : Nat) : Int) by unfold syncN; rw [if_pos hk]]
    exact (sync1_own W2 hp hO.rd (hO.blk.mono (Nat.le_add_right _ 2))).mono fun e W' h => own_chg h hg hsz
  rintro e w3 ⟨a3, k3, c3, rfl, hr3, hb3, -, hbg⟩
  replace hbg := hbg.mono q.size
  replace pr := pr.below hb3 pr.lt
  replace q := q.trans (hb3.mono q.size)
  have fr0 := pr.frozen0
  have fr1 := pr.frozen1
  have rc0 := pr.cell0
  have rc1 := pr.cell1
  go_wp2_with fail
  exact log_ret2 pr (notU8_slice _ _ _) (notU8_int _) hr3 q (by omega) hbg rfl (fun hp => by simp [results, Try.results14, go_sem, hp.cell0, hp.cell1])

set_option maxRecDepth 100000 in
set_option maxHeartbeats 1000000 in
theorem walTrim_new (w : World) {B : Nat} {a : Option Addr} {n c : Nat} {bs : List UInt8} {s : Int} (hr : Rd B w (.slice a n c) bs) (hB : B ≤ w.heap.size) (hx : bs.length ≤ 1000000) :
    Calls Try.prog 18 #[.agg #[.slice a n c, .int .i64 s]] w (LogNew w (trimB bs s) (trimN bs s)) := by
  obtain ⟨rfl, hnc, hcm⟩ := hr.len
  have hb2 := box2 w 24 (.slice a bs.length c) (.int .i64 s) (.slice none 0 0) (.int .i64 0)
  go_enter Try.func18, Try.ntmps18
  go_wp2_with fail
  obtain ⟨pl, pr, q, hsz⟩ := hb2
  generalize (w.alloc (.cells #[.slice a bs.length c, .int .i64 s] 24)).alloc (.cells #[.slice none 0 0, .int .i64 0] 24) = W at *
  refine (changed_any (bs' := trimB bs s) (s' := trimN bs s) W (hr.below (q.mono hB)) (Nat.le_trans hB q.size) hx 33 #[] (enters_of Try.func33 (by kernel_rfl) rfl) W.heap.size (Nat.le_refl _) (fun _ => True) (fun _ _ _ _ => trivial) (fun hk => ⟨by unfold trimB; rw [if_neg hk], by unfold trimN; rw [if_neg hk], trivial⟩) (fun hk W2 g a2 k2 c2 hg hb hsz hp hO => ?_)).mono ?_
  · rw [show trimB bs s = bs.take (wholeN bs) by unfold trimB; rw [if_pos hk], show trimN bs s = min s (wholeN bs : Nat) by unfold trimN; rw [if_pos hk]]
    exact (trim1_any W2 hp hO.rd hx (hO.blk.mono (Nat.le_add_right _ 2))).mono fun e W' h => own_chg h hg hsz
  rintro e w3 ⟨a3, k3, c3, rfl, hr3, hb3, -, hbg⟩
  replace hbg := hbg.mono q.size
  replace pr := pr.below hb3 pr.lt
  replace q := q.trans (hb3.mono q.size)
  have fr0 := pr.frozen0
  have fr1 := pr.frozen1
  have rc0 := pr.cell0
  have rc1 := pr.cell1
  go_wp2_with fail
  exact log_ret2 pr (notU8_slice _ _ _) (notU8_int _) hr3 q (by omega) hbg rfl (fun hp => by simp [results, Try.results18, go_sem, hp.cell0, hp.cell1])

theorem box3 (w : World) (t t1 : TypeId) (u v x u2 v2 : Value) : PairV (((w.alloc (.cells #[u, v] t)).alloc (.cells #[x] t1)).alloc (.cells #[u2, v2] t)) w.heap.size t u v ∧ Boxed (((w.alloc (.cells #[u, v] t)).alloc (.cells #[x] t1)).alloc (.cells #[u2, v2] t)) (w.heap.size + 1) t1 x ∧ PairV (((w.alloc (.cells #[u, v] t)).alloc (.cells #[x] t1)).alloc (.cells #[u2, v2] t)) (w.heap.size + 2) t u2 v2 ∧
    Below w.heap.size w (((w.alloc (.cells #[u, v] t)).alloc (.cells #[x] t1)).alloc (.cells #[u2, v2] t)) ∧ (((w.alloc (.cells #[u, v] t)).alloc (.cells #[x] t1)).alloc (.cells #[u2, v2] t)).heap.size = w.heap.size + 3 :=
  ⟨((PairV.new w _ _ _).alloc _).alloc _, by
    have := (Boxed.new (w.alloc (.cells #[u, v] t)) t1 x).alloc (.cells #[u2, v2] t)
    simpa using this, PairV.new' (by simp), (((Below.refl _ _).alloc (Nat.le_refl _) _).alloc (by simp) _).alloc (by simp; omega) _, by simp⟩

set_option maxRecDepth 100000 in
set_option maxHeartbeats 1000000 in
theorem walCrash_new (w : World) {B : Nat} {a : Option Addr} {n c : Nat} {bs : List UInt8} {s keep : Int} (hr : Rd B w (.slice a n c) bs) (hB : B ≤ w.heap.size) (hx : bs.length ≤ 1000000) :
    Calls Try.prog 16 #[.agg #[.slice a n c, .int .i64 s], .int .i64 keep] w (LogNew w (crashB bs s keep) (crashN bs s keep)) := by
  obtain ⟨rfl, hnc, hcm⟩ := hr.len
  have hb2 := box3 w 24 3 (.slice a bs.length c) (.int .i64 s) (.int .i64 keep) (.slice none 0 0) (.int .i64 0)
  go_enter Try.func16, Try.ntmps16
  go_wp2_with fail
  obtain ⟨pl, bk, pr, q, hsz⟩ := hb2
  generalize ((w.alloc (.cells #[.slice a bs.length c, .int .i64 s] 24)).alloc (.cells #[.int .i64 keep] 3)).alloc (.cells #[.slice none 0 0, .int .i64 0] 24) = W at *
  refine (changed_any (bs' := crashB bs s keep) (s' := crashN bs s keep) W (hr.below (q.mono hB)) (Nat.le_trans hB q.size) hx 31 #[.pointer (some ⟨w.heap.size + 1, 0, none⟩)] (enters_of Try.func31 (by kernel_rfl) rfl) W.heap.size (Nat.le_refl _) (fun _ => True) (fun _ _ _ _ => trivial) (fun hk => ⟨by unfold crashB; rw [if_neg hk], by unfold crashN; rw [if_neg hk], trivial⟩) (fun hk W2 g a2 k2 c2 hg hb hsz hp hO => ?_)).mono ?_
  · rw [show crashB bs s keep = bs.take (keepN bs s keep) by unfold crashB; rw [if_pos hk], show crashN bs s keep = (keepN bs s keep : Nat) by unfold crashN; rw [if_pos hk]]
    exact (crash1_any W2 hp hO.rd hk (bk.kept (grown_below' hb none) (by simp)) (hO.blk.mono (Nat.le_add_right _ 2))).mono fun e W' h => own_chg h hg hsz
  rintro e w3 ⟨a3, k3, c3, rfl, hr3, hb3, -, hbg⟩
  replace hbg := hbg.mono q.size
  replace pr := pr.below hb3 pr.lt
  replace q := q.trans (hb3.mono q.size)
  have fr0 := pr.frozen0
  have fr1 := pr.frozen1
  have rc0 := pr.cell0
  have rc1 := pr.cell1
  go_wp2_with fail
  exact log_ret2 pr (notU8_slice _ _ _) (notU8_int _) hr3 q (by omega) hbg rfl (fun hp => by simp [results, Try.results16, go_sem, hp.cell0, hp.cell1])

theorem walSync_any (w : World) {B : Nat} {a : Option Addr} {n c : Nat} {bs : List UInt8} {s : Int} (hr : Rd B w (.slice a n c) bs) (hB : B ≤ w.heap.size) (hx : bs.length ≤ 1000000) :
    Calls Try.prog 14 #[.agg #[.slice a n c, .int .i64 s]] w (LogEnd w bs (syncN bs s)) := (walSync_new w hr hB hx).mono fun _ _ ⟨a, k, c, h1, h2, h3, _⟩ => ⟨a, k, c, h1, h2, h3⟩
theorem walTrim_any (w : World) {B : Nat} {a : Option Addr} {n c : Nat} {bs : List UInt8} {s : Int} (hr : Rd B w (.slice a n c) bs) (hB : B ≤ w.heap.size) (hx : bs.length ≤ 1000000) :
    Calls Try.prog 18 #[.agg #[.slice a n c, .int .i64 s]] w (LogEnd w (trimB bs s) (trimN bs s)) := (walTrim_new w hr hB hx).mono fun _ _ ⟨a, k, c, h1, h2, h3, _⟩ => ⟨a, k, c, h1, h2, h3⟩
theorem walCrash_any (w : World) {B : Nat} {a : Option Addr} {n c : Nat} {bs : List UInt8} {s keep : Int} (hr : Rd B w (.slice a n c) bs) (hB : B ≤ w.heap.size) (hx : bs.length ≤ 1000000) :
    Calls Try.prog 16 #[.agg #[.slice a n c, .int .i64 s], .int .i64 keep] w (LogEnd w (crashB bs s keep) (crashN bs s keep)) := (walCrash_new w hr hB hx).mono fun _ _ ⟨a, k, c, h1, h2, h3, _⟩ => ⟨a, k, c, h1, h2, h3⟩
set_option maxRecDepth 100000 in
set_option maxHeartbeats 1000000 in
theorem walTexts_any (w : World) {B : Nat} {a : Option Addr} {n c : Nat} {bs : List UInt8} {s : Int} (hr : Rd B w (.slice a n c) bs) (hB : B ≤ w.heap.size) (hx : bs.length ≤ 1000000) :
    Calls Try.prog 21 #[.agg #[.slice a n c, .int .i64 s]] w (TextsEnd w bs s) := by
  obtain ⟨rfl, hnc, hcm⟩ := hr.len
  have pl := PairV.new w 24 (.slice a bs.length c) (.int .i64 s)
  have q : Below w.heap.size w (w.alloc (.cells #[.slice a bs.length c, .int .i64 s] 24)) := (Below.refl _ _).alloc (Nat.le_refl _) _
  go_enter Try.func21, Try.ntmps21
  go_wp2_with fail
  generalize w.alloc (.cells #[.slice a bs.length c, .int .i64 s] 24) = W at *
  refine (walCheck_any W (hr.below (q.mono hB))).mono ?_
  rintro e w2 ⟨rfl, hb2⟩
  replace pl := pl.below hb2 pl.lt
  replace q := q.trans (hb2.mono q.size)
  clear hb2
  have l0 := pl.cell0
  have l1 := pl.cell1
  by_cases hk : okL bs s
  · have hd : decide (okL bs s) = true := decide_eq_true hk
    have HN := Lib.hid (show textsS bs s = textsF bs by unfold textsS; rw [if_pos hk])
    rw [hd]
    clear hk hd
    go_wp2_with fail
    refine (all_any _ (hr.below (q.mono hB)) (Nat.le_trans hB q.size) hx).mono ?_
    rintro e w3 ⟨a3, c3, rfl, hO, hb3⟩
    go_wp2_with fail
    go_ret
    refine ⟨a3, (textsF bs).length, c3, rfl, ?_, q.trans (hb3.mono q.size)⟩
    rw [HN.out]
    exact hO.to q.size
  · have hd : decide (okL bs s) = false := decide_eq_false hk
    have HN := Lib.hid (show textsS bs s = [] by unfold textsS; rw [if_neg hk])
    rw [hd]
    clear hk hd
    go_wp2_with fail
    go_ret
    exact ⟨none, 0, 0, rfl, by rw [HN.out]; exact OwnR.nil _ _ _, q⟩
end Go.Proofs.Ytebilecgmblmfaa
