/-
  THE WALKS OF wal's Append AND OF THE FUNCTION THAT IT HANDS TO changed; wal's contracts together. Slices of at most a million bytes; at most a hundred texts.
-/
import Derived.RangeFuncBox
import Derived.Shelf.Abstract
import Derived.WalkKit
import Derived.WalkSpells
import Derived.WalkLawsBesides
import Derived.Lib.Hide
import Derived.Deep.Cut
import Derived.Test.YtebilecgmblmfaaProg
import Derived.Test.YtebilecgmblmfaaByte
import Derived.Test.YtebilecgmblmfaaAux
import Derived.Test.YtebilecgmblmfaaCut
import Derived.Test.YtebilecgmblmfaaRyo
import Derived.Test.YtebilecgmblmfaaGuard
import Derived.Test.YtebilecgmblmfaaOps
import Derived.Test.YtebilecgmblmfaaKept
import Derived.Test.YtebilecgmblmfaaLink
import Derived.Test.YtebilecgmblmfaaSink
import Derived.Test.YtebilecgmblmfaaFrmF
import Derived.Test.YtebilecgmblmfaaWalM
import Derived.Test.YtebilecgmblmfaaWalR
import Derived.Test.YtebilecgmblmfaaWalS
import Derived.Test.YtebilecgmblmfaaWalC
import Derived.Test.YtebilecgmblmfaaWalA
import Derived.Test.YtebilecgmblmfaaWalP
import Derived.Test.YtebilecgmblmfaaWalX
import Derived.Test.YtebilecgmblmfaaWalF
namespace Go.Proofs.Ytebilecgmblmfaa
open Go.RowKit Go.Shelf
theorem own_lt {E : TypeId} {base g : Nat} {w w' : World} {v : Value} {xs : List UInt8} (h : Own E base w v xs) (hg : w.grownBy w' (some g)) (hlt : g < base) : Own E base w' v xs := by
  obtain ⟨n, h⟩ := h
  refine ⟨n, World.ownsRow.kept h hg ?_⟩
  rcases h.2 with ⟨rfl, _⟩ | ⟨g2, cap, cur, rfl, hb, _⟩
  · exact .inl rfl
  · right
    intro e
    obtain rfl : g2 = g := by simpa [Value.ownBlock] using e
    omega
/-- A slice of the call's own, and an error beside it. -/
def mTup (E : TypeId) (base eb : Nat) (heb : eb < base) (xs : List UInt8) (er : Nat) : SGm (GrK eb) := ⟨fun w v => ∃ ad k c, v = .tuple #[.slice ad k c, .int .i64 er] ∧ Own E base w (.slice ad k c) xs, fun _ _ _ ⟨ad, k, c, h, hr⟩ hb => ⟨ad, k, c, h, hr.below hb⟩, fun _ _ _ ⟨ad, k, c, h, hr⟩ hk => ⟨ad, k, c, h, own_lt hr hk heb⟩⟩
def mOwn (E : TypeId) (base eb : Nat) (heb : eb < base) (xs : List UInt8) : SGm (GrK eb) := ⟨fun w v => ∃ ad k c, v = .slice ad k c ∧ Own E base w (.slice ad k c) xs, fun _ _ _ ⟨ad, k, c, h, hr⟩ hb => ⟨ad, k, c, h, hr.below hb⟩, fun _ _ _ ⟨ad, k, c, h, hr⟩ hk => ⟨ad, k, c, h, own_lt hr hk heb⟩⟩
theorem appS_frm {bs : List UInt8} {s : Int} {tss : List (List UInt8)} (hk : okL bs s) : appS bs s tss = (bs ++ (frmR tss (20000 - bs.length)).1, (frmR tss (20000 - bs.length)).2) := by
  have h1 := hk.1
  unfold frmR
  by_cases hl : longT tss
  · rw [appS_long hk hl, if_pos hl, List.append_nil]
  · rw [if_neg hl]
    by_cases hf : 20000 < (bs ++ framesB tss).length
    · rw [appS_full hk hl hf, if_pos (by rw [List.length_append] at hf; omega), List.append_nil]
    · rw [appS_ok hk hl hf, if_neg (by rw [List.length_append] at hf; omega)]
theorem wp_store1 {P : Program} {o : Oper} {a : Act} {K : Act → World → Prop} {Q : Exit → Act → World → Prop} {w : World} {t t2 : TypeId} {k : IntKind} {x y : Operand} {b : Nat} {u : Value} {v : Int} (ho : o.op = .store t x y) (hu : (P.info? t).map (·.size) = some 1) (hx : a.eval x = .pointer (some ⟨b, 0, none⟩)) (hy : a.eval y = .int k v) (hb : Boxed w b t2 u)
    (h : K (a.put o.dst undef) (w.setCell ⟨b, 0, none⟩ (.int k v))) : o.wp P a w K Q := by
  refine wp_skip ?_ h
  have hc0 := hb.cell
  have hf0 := hb.frozen
  simp only [execOp, ho, hx, hy]
  simp [Instr.storeAt, storeVar, run_sizeOf hu, storeCells, Value.cells, run_store _ _ _ _ _ (show (Value.int k v).oneCell' = true from rfl), hc0, hf0, go_sem]
theorem frmR_le (tss : List (List UInt8)) (room : Nat) : (frmR tss room).1.length ≤ room := by
  unfold frmR
  split
  · simp
  · split
    · simp
    · simp; omega

set_option maxRecDepth 100000 in
set_option maxHeartbeats 2000000 in
theorem app1_any (W : World) {n₀ base g tb eb : Nat} (hn0 : n₀ ≤ eb) (heb : eb < base) (hbase : base ≤ W.heap.size) (hbg : base ≤ g) {a : Option Addr} {n c : Nat} {bs : List UInt8} {s : Int} (hp : PairV W g 24 (.slice a n c) (.int .i64 s)) (hO : Own 5 base W (.slice a n c) bs) (hk : okL bs s)
    {w0 : World} {a2 : Option Addr} {n2 c2 : Nat} {tss : List (List UInt8)} (ht : RdRows w0 (.slice a2 n2 c2) tss) (hb0 : Below w0.heap.size w0 W) (hn2 : tss.length ≤ 100)
    (hT : Boxed W tb 25 (.slice a2 n2 c2)) {e0 : Int} (hE : Boxed W eb 28 (.int .i64 e0)) :
    Calls Try.prog 27 #[.pointer (some ⟨g, 0, none⟩), .pointer (some ⟨tb, 0, none⟩), .pointer (some ⟨eb, 0, none⟩)] W fun e W' => e = .returned (.tuple #[]) ∧ Below n₀ W W' ∧ (∀ k, k < base → k ≠ eb → W'.heap[k]? = W.heap[k]?) ∧ Boxed W' eb 28 (.int .i64 ((appS bs s tss).2 : Nat)) ∧
      ∃ a3 k3 c3, PairV W' g 24 (.slice a3 k3 c3) (.int .i64 s) ∧ Rd W'.heap.size W' (.slice a3 k3 c3) (appS bs s tss).1 ∧ BlkGe base a3 (appS bs s tss).1 := by
  obtain rfl := hO.len
  have hA := appS_frm (tss := tss) hk
  have hb20 := hk.1
  obtain ⟨room, hroom⟩ : ∃ r, r = 20000 - bs.length := ⟨_, rfl⟩
  have hr20 : room ≤ 20000 := by omega
  have hri : (20000 : Int) - bs.length = room := by omega
  have hle := frmR_le tss room
  rw [← hroom] at hA
  rw [hA]
  clear hA hroom hk
  have hfr := fun (w' : World) (h : Below W.heap.size W w') => logFrames_any ht w' (hb0.trans (h.mono hb0.size)) hn2 room hr20
  unfold FrmEnd at hfr
  obtain ⟨fb, hfb⟩ : ∃ x, x = (frmR tss room).1 := ⟨_, rfl⟩
  obtain ⟨er, her⟩ : ∃ x, x = (frmR tss room).2 := ⟨_, rfl⟩
  rw [← hfb, ← her] at hfr ⊢
  rw [← hfb] at hle
  clear hfb her
  have ltE := hE.lt
  go_enter Try.func27, Try.ntmps27
  go_upto_region 1 with (fail)
  refine wp_region_sink (by kernel_rfl) (by kernel_rfl) (GrK eb) 12 (fun i => decide (i < 9 ∨ i = 10)) (by kernel_rfl) (fun A => W.grownBy A (some eb)) (fun A h => grown_below' h _) (fun A => grown_refl A _) (fun A B h k => grown_trans h (grown_below' k _)) (fun A B h k => grown_trans h k)
    [mEq (.slice a2 n2 c2), mEq (.pointer (some ⟨g, 0, none⟩)), mEq (.pointer (some ⟨g, 0, none⟩)), mEq (.pointer (some ⟨g, 0, none⟩)), mEq (.slice a bs.length c), mEq (.int .i64 bs.length), mEq (.int .i64 room), mTup 5 W.heap.size eb ltE fb er, mTup 5 W.heap.size eb ltE fb er, mOwn 5 W.heap.size eb ltE fb, mEq (.int .i64 er), mOwn 5 W.heap.size eb ltE fb]
    ⟨fun w' _ => Boxed w' eb 28 (.int .i64 er), fun A v C h hb => h.kept (grown_below' hb none) (by simp)⟩
    ⟨?o0, ?o1, ?o2, ?o3, ?o4, ?o5, ?o6, ?o7, ?o8, ?o9, ?o10, ?o11, ?o12, trivial⟩ ?fin
  case o0 =>
    refine GdOpM.plain rfl (fun A vs w' hF hT' hR h0 hd => ?_)
    have e1 : A.eval (.tmp 1) = .pointer (some ⟨tb, 0, none⟩) := hF 1 rfl
    exact wp_ld_slice (e := 22) rfl (e1) (by kernel_rfl) ((hT.kept (grown_below' (h0 (.inl rfl)) none) (by simp)).cell) ⟨_, rfl, rfl, Below.refl _ _⟩
  case o1 =>
    refine GdOpM.plain rfl (fun A vs w' hF hT' hR h0 hd => ?_)
    have e1 : A.eval (.tmp 0) = .pointer (some ⟨g, 0, none⟩) := hF 0 rfl
    exact BigFrame.wp_move _ rfl ⟨_, rfl, e1, Below.refl _ _⟩
  case o2 =>
    refine GdOpM.plain rfl (fun A vs w' hF hT' hR h0 hd => ?_)
    have e1 : A.eval (.tmp 7) = .pointer (some ⟨g, 0, none⟩) := (hT' 7 1 (by simp) rfl).trans (hd ⟨1, .data⟩ (by simp) rfl)
    exact wp_nilP rfl (e1) ⟨_, rfl, rfl, Below.refl _ _⟩
  case o3 =>
    refine GdOpM.plain rfl (fun A vs w' hF hT' hR h0 hd => ?_)
    have e1 : A.eval (.tmp 8) = .pointer (some ⟨g, 0, none⟩) := (hT' 8 2 (by simp) rfl).trans (hd ⟨2, .data⟩ (by simp) rfl)
    exact wp_fieldA logP rfl (e1) (by omega) ⟨_, rfl, rfl, Below.refl _ _⟩
  case o4 =>
    refine GdOpM.plain rfl (fun A vs w' hF hT' hR h0 hd => ?_)
    have e1 : A.eval (.tmp 9) = .pointer (some ⟨g, 0, none⟩) := (hT' 9 3 (by simp) rfl).trans (hd ⟨3, .data⟩ (by simp) rfl)
    exact wp_ld_slice (e := 5) rfl (e1) (by kernel_rfl) ((hp.below (h0 (.inl rfl)) hp.lt).cell0) ⟨_, rfl, rfl, Below.refl _ _⟩
  case o5 =>
    refine GdOpM.plain rfl (fun A vs w' hF hT' hR h0 hd => ?_)
    have e1 : A.eval (.tmp 10) = .slice a bs.length c := (hT' 10 4 (by simp) rfl).trans (hd ⟨4, .data⟩ (by simp) rfl)
    exact wp_lenS (e := 5) rfl (by kernel_rfl) (e1) ⟨_, rfl, rfl, Below.refl _ _⟩
  case o6 =>
    refine GdOpM.plain rfl (fun A vs w' hF hT' hR h0 hd => ?_)
    have e2 : A.eval (.tmp 11) = .int .i64 bs.length := (hT' 11 5 (by simp) rfl).trans (hd ⟨5, .data⟩ (by simp) rfl)
    exact wp_subI rfl (rfl) (e2) (by omega) (by omega) ⟨_, rfl, congrArg (Value.int .i64) hri, Below.refl _ _⟩
  case o7 =>
    refine GdOpM.plain rfl (fun A vs w' hF hT' hR h0 hd => ?_)
    have e1 : A.eval (.tmp 6) = .slice a2 n2 c2 := (hT' 6 0 (by simp) rfl).trans (hd ⟨0, .data⟩ (by simp) rfl)
    have e2 : A.eval (.tmp 12) = .int .i64 room := (hT' 12 6 (by simp) rfl).trans (hd ⟨6, .data⟩ (by simp) rfl)
    refine wp_callFn rfl (enters_of Try.func28 (by kernel_rfl) rfl) (args := #[.slice a2 n2 c2, .int .i64 room]) (by simp [e1, e2]) ((hfr w' (h0 (.inl rfl))).mono ?_)
    rintro e w2 ⟨a5, k5, c5, rfl, hF5, hb5⟩
    exact ⟨_, rfl, _, rfl, ⟨a5, k5, c5, rfl, hF5.to (h0 (.inl rfl)).size⟩, hb5⟩
  case o8 =>
    refine GdOpM.plain rfl (fun A vs w' hF hT' hR h0 hd => ?_)
    obtain ⟨a5, k5, c5, q5, hr5⟩ := (hd ⟨7, .data⟩ (by simp) rfl)
    exact BigFrame.wp_move _ rfl ⟨_, rfl, ⟨a5, k5, c5, (hT' 13 7 (by simp) rfl).trans q5, hr5⟩, Below.refl _ _⟩
  case o9 =>
    refine GdOpM.plain rfl (fun A vs w' hF hT' hR h0 hd => ?_)
    obtain ⟨a5, k5, c5, q5, hr5⟩ := (hd ⟨8, .data⟩ (by simp) rfl)
    exact wp_ex rfl ((hT' 5 8 (by simp) rfl).trans q5) rfl ⟨_, rfl, ⟨a5, k5, c5, rfl, hr5⟩, Below.refl _ _⟩
  case o10 =>
    refine GdOpM.plain rfl (fun A vs w' hF hT' hR h0 hd => ?_)
    obtain ⟨a5, k5, c5, q5, hr5⟩ := (hd ⟨8, .data⟩ (by simp) rfl)
    exact wp_ex rfl ((hT' 5 8 (by simp) rfl).trans q5) rfl ⟨_, rfl, rfl, Below.refl _ _⟩
  case o11 =>
    refine GdOpM.plain rfl (fun A vs w' hF hT' hR h0 hd => ?_)
    obtain ⟨a5, k5, c5, q5, hr5⟩ := (hd ⟨9, .data⟩ (by simp) rfl)
    exact BigFrame.wp_assign _ rfl ⟨_, rfl, ⟨a5, k5, c5, (hT' 14 9 (by simp) rfl).trans q5, hr5⟩, Below.refl _ _⟩
  case o12 =>
    refine GdOpM.plain rfl (fun A vs w' hF hT' hR h0 hd => ?_)
    have e1 : A.eval (.tmp 2) = .pointer (some ⟨eb, 0, none⟩) := hF 2 rfl
    have e2 : A.eval (.tmp 15) = .int .i64 er := (hT' 15 10 (by simp) rfl).trans (hd ⟨10, .data⟩ (by simp) rfl)
    have hE1 := hE.kept (grown_below' (h0 (.inr rfl)) none) (by simp)
    exact wp_store1 rfl (by kernel_rfl) e1 e2 hE1 ⟨_, rfl, hE1.set _, grown_set _ _ _ _⟩
  case fin =>
    intro vs w' hR hG
    have hE2 : Boxed w' eb 28 (.int .i64 er) := hG 12 (by decide)
    obtain ⟨x7, y7, z7, e7, _⟩ := hG 7 (by decide)
    obtain ⟨x8, y8, z8, e8, _⟩ := hG 8 (by decide)
    obtain ⟨x9, y9, z9, e9, _⟩ := hG 9 (by decide)
    obtain ⟨af, kf, cf, e11, hF⟩ := hG 11 (by decide)
    have e0 : vs 0 = .slice a2 n2 c2 := hG 0 (by decide)
    have e1 : vs 1 = .pointer (some ⟨g, 0, none⟩) := hG 1 (by decide)
    have e2 : vs 2 = .pointer (some ⟨g, 0, none⟩) := hG 2 (by decide)
    have e3 : vs 3 = .pointer (some ⟨g, 0, none⟩) := hG 3 (by decide)
    have e4 : vs 4 = .slice a bs.length c := hG 4 (by decide)
    have e5 : vs 5 = .int .i64 bs.length := hG 5 (by decide)
    have e6 : vs 6 = .int .i64 room := hG 6 (by decide)
    have e10 : vs 10 = .int .i64 er := hG 10 (by decide)
    simp only [putAll, e0, e1, e2, e3, e4, e5, e6, e10, e7, e8, e9, e11]
    clear hG e0 e1 e2 e3 e4 e5 e6 e10 e7 e8 e9 e11
    go_simp
    have hp2 : PairV w' g 24 (.slice a bs.length c) (.int .i64 s) := (hR.block g hp.lt (fun e => by cases e; omega)).trans hp
    have hO2 := own_lt hO hR heb
    obtain rfl := hF.len
    have hq : Below n₀ W w' := (Below.refl _ _).grown hR (by omega) (fun k e => by cases e; omega)
    have hsame : ∀ k, k < base → k ≠ eb → w'.heap[k]? = W.heap[k]? := fun k h1 h2 => hR.block k (by omega) (fun e => by cases e; omega)
    have hbw : base ≤ w'.heap.size := Nat.le_trans hbase hR.size
    clear hR hp hO hE hT
    have c0 := hp2.cell0
    go_wp2_with (at_builtin; refine wpList_append byP rfl rfl rfl hO2 rfl hF.rd hbw ?_ ?hlen2; intro a6 k6 c6 w6 hO6 hg6 hb6; have po6 := pair_apart ub_ne hp2 hO2 hg6; have of6 := po6.frozen0; have oc6 := po6.cell0)
    case hlen2 => omega
    go_end0
    have gs := grown_set w6 g 0 (.slice a6 k6 c6)
    have hE6 : Boxed w6 eb 28 (.int .i64 er) := (hb6.block eb heb).trans hE2
    refine ⟨rfl, ?_, fun k h1 h2 => ?_, hE6.other (by omega) _, a6, k6, c6, po6.put0 _, (own_core ub_ne hO6 gs po6).rd, hO6.blk⟩
    · exact (hq.trans (hb6.mono (by omega))).setCell (p := ⟨g, 0, none⟩) (show n₀ ≤ g by omega) _
    · exact (gs.block k (by have := hb6.size; omega) (fun e => by cases e; omega)).trans ((hb6.block k h1).trans (hsame k h1 h2))

theorem box4 (w : World) (t t1 t2 : TypeId) (u v x y u2 v2 : Value) : Boxed ((((w.alloc (.cells #[u, v] t)).alloc (.cells #[x] t1)).alloc (.cells #[u2, v2] t)).alloc (.cells #[y] t2)) (w.heap.size + 1) t1 x ∧ PairV ((((w.alloc (.cells #[u, v] t)).alloc (.cells #[x] t1)).alloc (.cells #[u2, v2] t)).alloc (.cells #[y] t2)) (w.heap.size + 2) t u2 v2 ∧
    Boxed ((((w.alloc (.cells #[u, v] t)).alloc (.cells #[x] t1)).alloc (.cells #[u2, v2] t)).alloc (.cells #[y] t2)) (w.heap.size + 3) t2 y ∧
    Below w.heap.size w ((((w.alloc (.cells #[u, v] t)).alloc (.cells #[x] t1)).alloc (.cells #[u2, v2] t)).alloc (.cells #[y] t2)) ∧ ((((w.alloc (.cells #[u, v] t)).alloc (.cells #[x] t1)).alloc (.cells #[u2, v2] t)).alloc (.cells #[y] t2)).heap.size = w.heap.size + 4 := by
  obtain ⟨_, h2, h3, h4, h5⟩ := box3 w t t1 u v x u2 v2
  refine ⟨h2.alloc _, h3.alloc _, ?_, h4.alloc (by omega) _, by simp⟩
  have := Boxed.new (((w.alloc (.cells #[u, v] t)).alloc (.cells #[x] t1)).alloc (.cells #[u2, v2] t)) t2 y
  rwa [h5] at this

/-- What an append hands back, its bytes in new memory. -/
def AppNew (w : World) (bs : List UInt8) (s : Int) (tss : List (List UInt8)) (e : Ending) (w' : World) : Prop :=
  ∃ a k c, e = .returned (.tuple #[.agg #[.slice a k c, .int .i64 s], .int .i64 ((appS bs s tss).2 : Nat)]) ∧ Rd w'.heap.size w' (.slice a k c) (appS bs s tss).1 ∧ Below w.heap.size w w' ∧ BlkGe w.heap.size a (appS bs s tss).1
set_option maxRecDepth 100000 in
set_option maxHeartbeats 2000000 in
theorem walApp_new (w : World) {B : Nat} {a : Option Addr} {n c : Nat} {bs : List UInt8} {s : Int} (hr : Rd B w (.slice a n c) bs) (hB : B ≤ w.heap.size) (hx : bs.length ≤ 1000000)
    {w0 : World} {a2 : Option Addr} {n2 c2 : Nat} {tss : List (List UInt8)} (ht : RdRows w0 (.slice a2 n2 c2) tss) (hb0 : Below w0.heap.size w0 w) (hn2 : tss.length ≤ 100) :
    Calls Try.prog 11 #[.agg #[.slice a n c, .int .i64 s], .slice a2 n2 c2] w (AppNew w bs s tss) := by
  obtain ⟨rfl, hnc, hcm⟩ := hr.len
  have hb2 := box4 w 24 25 28 (.slice a bs.length c) (.int .i64 s) (.slice a2 n2 c2) (.int .i64 1) (.slice none 0 0) (.int .i64 0)
  go_enter Try.func11, Try.ntmps11
  go_wp2_with fail
  obtain ⟨bT, pr, bE, q, hsz⟩ := hb2
  generalize (((w.alloc (.cells #[.slice a bs.length c, .int .i64 s] 24)).alloc (.cells #[.slice a2 n2 c2] 25)).alloc (.cells #[.slice none 0 0, .int .i64 0] 24)).alloc (.cells #[.int .i64 1] 28) = W at *
  refine (changed_any (bs' := (appS bs s tss).1) (s' := s) W (hr.below (q.mono hB)) (Nat.le_trans hB q.size) hx 27 #[.pointer (some ⟨w.heap.size + 1, 0, none⟩), .pointer (some ⟨w.heap.size + 1 + 1 + 1, 0, none⟩)] (enters_of Try.func27 (by kernel_rfl) rfl) (w.heap.size + 3) (by omega) (fun A => Boxed A (w.heap.size + 3) 28 (.int .i64 ((appS bs s tss).2 : Nat))) (fun A B h hb => (hb.block _ (by omega)).trans h) (fun hk => ?_) (fun hk W2 g ag kg cg hg hb hs2 hp hO => ?_)).mono ?_
  · rw [appS_arg hk]; exact ⟨rfl, rfl, bE⟩
  · refine (app1_any W2 (n₀ := w.heap.size + 3) (base := W.heap.size + 2) (tb := w.heap.size + 1) (eb := w.heap.size + 3) (Nat.le_refl _) (by omega) hs2 hg hp hO hk ht ((hb0.trans (q.mono hb0.size)).trans (hb.mono (Nat.le_trans hb0.size q.size))) hn2 ((hb.block _ bT.lt).trans bT) ((hb.block _ bE.lt).trans bE)).mono ?_
    rintro e W' ⟨rfl, h1, h2, h3, a9, k9, c9, h4, h5, h6⟩
    exact ⟨rfl, h1, fun k k1 k2 => h2 k k2 (by omega), h3, a9, k9, c9, h4, h5, h6.mono (by omega)⟩
  rintro e w3 ⟨a3, k3, c3, rfl, hr3, hb3, hE3, hbg⟩
  replace hbg := hbg.mono q.size
  replace pr := pr.below hb3 (by omega)
  replace q := q.trans (hb3.mono (by omega))
  have hsw : w.heap.size + 4 ≤ w3.heap.size := by have := hb3.size; omega
  obtain ⟨er, her⟩ : ∃ er, er = (appS bs s tss).2 := ⟨_, rfl⟩
  obtain ⟨zs, hzs⟩ : ∃ zs, zs = (appS bs s tss).1 := ⟨_, rfl⟩
  have HA := Lib.hid (show appS bs s tss = (zs, er) by rw [her, hzs])
  rw [← her] at hE3
  rw [← hzs] at hr3 hbg
  clear her hzs hb3 bT bE hsz
  obtain rfl := hr3.len.1
  go_upto_region 3 with (fail)
  have po := PairV.new w3 24 (.slice a3 zs.length c3) (.int .i64 s)
  replace pr := pr.alloc (.cells #[.slice a3 zs.length c3, .int .i64 s] 24)
  have hbx : Below w3.heap.size w3 (w3.alloc (.cells #[.slice a3 zs.length c3, .int .i64 s] 24)) := (Below.refl _ _).alloc (Nat.le_refl _) _
  replace hE3 := hE3.alloc (.cells #[.slice a3 zs.length c3, .int .i64 s] 24)
  replace hr3 := (hr3.below hbx).mono hbx.size
  replace q := q.trans (hbx.mono q.size)
  clear hbx
  generalize w3.alloc (.cells #[.slice a3 zs.length c3, .int .i64 s] 24) = W1 at *
  refine wp_region_sink (by kernel_rfl) (by kernel_rfl) (GrK (w.heap.size + 2)) 2 (fun _ => false) (by kernel_rfl) (fun A => W1.grownBy A (some (w.heap.size + 2))) (fun A h => grown_below' h _) (fun A => grown_refl A _) (fun A B h k => grown_trans h (grown_below' k _)) (fun A B h k => grown_trans h k)
    [mEq (.agg #[.slice a3 zs.length c3, .int .i64 s]), mEq (.int .i64 er), mAny, mEq (.int .i64 er)]
    ⟨fun w' _ => PairV w' (w.heap.size + 2) 24 (.slice a3 zs.length c3) (.int .i64 s), fun A v C h hb => h.below hb h.lt⟩
    ⟨?o0, ?o1, ?o2, ?o3, trivial⟩ ?fin
  case o0 =>
    refine GdOpM.plain rfl (fun A vs w' hF hT hR h0 hd => ?_)
    have po' : PairV w' w3.heap.size 24 (.slice a3 zs.length c3) (.int .i64 s) := (hR.block _ po.lt (fun e => by injection e with e; omega)).trans po
    exact wp_loadP logP rfl (hF 7 rfl) po'.cell0 po'.cell1 ⟨_, rfl, rfl, Below.refl _ _⟩
  case o1 =>
    refine GdOpM.plain rfl (fun A vs w' hF hT hR h0 hd => ?_)
    have hE4 : Boxed w' (w.heap.size + 3) 28 (.int .i64 er) := hE3.kept hR (by simp)
    exact wp_ld_int (k := .i64) rfl (hF 6 rfl) (by kernel_rfl) hE4.cell ⟨_, rfl, rfl, Below.refl _ _⟩
  case o2 =>
    refine GdOpM.plain rfl (fun A vs w' hF hT hR h0 hd => ?_)
    have e2 : A.eval (.tmp 11) = .agg #[.slice a3 zs.length c3, .int .i64 s] := (hT 11 0 (by simp) rfl).trans (hd ⟨0, .data⟩ (by simp) rfl)
    have hx5 := pr.below (h0 (.inr rfl)) pr.lt
    exact wp_storeP logP rfl (hF 4 rfl) e2 rfl rfl _ hx5 (fun w2 hg h2 => ⟨_, rfl, h2, hg⟩)
  case o3 =>
    refine GdOpM.plain rfl (fun A vs w' hF hT hR h0 hd => ?_)
    exact BigFrame.wp_assign _ rfl ⟨_, rfl, (hT 12 1 (by simp) rfl).trans (hd ⟨1, .data⟩ (by simp) rfl), Below.refl _ _⟩
  case fin =>
    intro vs w' hR hG
    have e0 : vs 0 = .agg #[.slice a3 zs.length c3, .int .i64 s] := hG 0 (by decide)
    have e1 : vs 1 = .int .i64 er := hG 1 (by decide)
    have e3 : vs 3 = .int .i64 er := hG 3 (by decide)
    have hp : PairV w' (w.heap.size + 2) 24 (.slice a3 zs.length c3) (.int .i64 s) := hG 2 (by decide)
    simp only [putAll, e0, e1, e3]
    clear hG e0 e1 e3
    go_simp
    have c0 := hp.cell0
    have c1 := hp.cell1
    have hr4 := (rd_core hr3 (Nat.le_refl _) hR pr (notU8_slice _ _ _) (notU8_int _)).mono hR.size
    have q4 : Below w.heap.size w w' := q.grown hR q.size (fun k e => by cases e; omega)
    go_wp2
    exact bodyPost_ret (v := .tuple #[.agg #[.slice a3 zs.length c3, .int .i64 s], .int .i64 er]) (by simp [results, Try.results11, go_sem, c0, c1]) rfl ⟨a3, _, c3, by rw [HA.out], by rw [HA.out]; exact hr4, q4, by rw [HA.out]; exact hbg⟩
theorem walApp_any (w : World) {B : Nat} {a : Option Addr} {n c : Nat} {bs : List UInt8} {s : Int} (hr : Rd B w (.slice a n c) bs) (hB : B ≤ w.heap.size) (hx : bs.length ≤ 1000000)
    {w0 : World} {a2 : Option Addr} {n2 c2 : Nat} {tss : List (List UInt8)} (ht : RdRows w0 (.slice a2 n2 c2) tss) (hb0 : Below w0.heap.size w0 w) (hn2 : tss.length ≤ 100) :
    Calls Try.prog 11 #[.agg #[.slice a n c, .int .i64 s], .slice a2 n2 c2] w (AppEnd w bs s tss) := (walApp_new w hr hB hx ht hb0 hn2).mono fun _ _ ⟨a, k, c, h1, h2, h3, _⟩ => ⟨a, k, c, h1, h2, h3⟩

/-- wal's contracts, but for awake. -/
theorem walC0 : WalC0 := ⟨fun w _ _ _ _ _ _ h _ _ _ => walCheck_any w h, fun w _ _ _ _ _ _ h hB hx _ => walSync_any w h hB hx, fun w _ _ _ _ _ _ _ h hB hx _ _ => walCrash_any w h hB hx, fun w _ _ _ _ _ _ h hB hx _ => walTrim_any w h hB hx, fun w _ _ _ _ _ _ h hB hx _ => walTexts_any w h hB hx,
  fun w _ _ _ _ _ _ h hB hx _ _ _ _ _ _ ht hb hn => walApp_any w h hB hx ht hb hn⟩
/-- All that the laws take. -/
theorem walC : WalC := walC0.full
end Go.Proofs.Ytebilecgmblmfaa
