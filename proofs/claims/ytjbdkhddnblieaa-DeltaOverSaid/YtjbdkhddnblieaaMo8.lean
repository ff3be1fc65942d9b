/-
  TEXTS OF ONE PROOF, merged: Dmr, Dms.
-/
import Derived.Test.YtjbdkhddnblieaaMo7
namespace Go.Proofs.Ytjbdkhddnblieaa
open Go.RowKit Go.Shelf
def wB8 : Wr := ⟨0, [98], false, [118]⟩
def wA8 : Wr := ⟨0, [97], true, []⟩
def dA8 : Dl := ⟨[wB8], []⟩
def dB8 : Dl := ⟨[wB8], [1]⟩
def dC8 : Dl := ⟨[wB8, wA8], [1]⟩
theorem put8_1 : putD ⟨[], []⟩ wB8 = (dA8, 0) := by decide
theorem mark8 : markD dA8 = (dB8, 0) := by decide
theorem put8_2 : putD dB8 wA8 = (dC8, 0) := by decide
theorem find8 : findD dC8 ⟨0, [97]⟩ = some wA8 := by decide
theorem last8 : lastD dC8 = [wA8, wB8] := by decide
theorem over8 : overD dC8 ⟨0, [], [], true⟩ [⟨[97], []⟩, ⟨[99], []⟩] = [⟨[98], [118]⟩, ⟨[99], []⟩] := by decide
theorem back8_0 : backD dC8 0 = (dB8, 0) := by decide
theorem back8_1 : backD dC8 1 = (dC8, 1) := by decide
theorem find8_n : findD dB8 ⟨0, [97]⟩ = none := by decide
theorem put8_3 : putD dC8 ⟨4, [], false, []⟩ = (dC8, 1) := by decide
theorem ok8 : okD dC8 := by decide
theorem sm8_0 : smD ⟨[], []⟩ := by unfold smD; simp
theorem sm8_A : smD dA8 := by unfold smD dA8 wB8; simp
theorem sm8_B : smD dB8 := by unfold smD dB8 wB8; simp
theorem sm8_C : smD dC8 := by unfold smD dC8 wB8 wA8; simp
theorem fnd_some {w w' : World} {r : Wr} {e : Ending} (h : FndEnd w (some r) e w') : ∃ v', e = .returned (.tuple #[v', .bool true]) ∧ RdWr (fun k => w.heap.size ≤ k ∧ k < w'.heap.size) w' v' r ∧ Below w.heap.size w w' := h
theorem fnd_none {w w' : World} {e : Ending} (h : FndEnd w none e w') : ∃ v', e = .returned (.tuple #[v', .bool false]) ∧ RdWr (fun k => w.heap.size ≤ k ∧ k < w'.heap.size) w' v' noWr ∧ Below w.heap.size w w' := h
section
variable {P : Program} {T E : TypeId} {S : List UInt8 → Nat → Prop} {ops : Array Oper} {rest : List Oper} {o : Oper} {a : Act} {Q : Exit → Act → World → Prop} {w : World}
theorem wpList_byte1 (hP : ByP Try.prog 26 5 9) {o' : Oper} {k : Int} {d : Tmp} (ho : o.op = .buildSlice 26 1 #[(0, .const (.int .u8 k))]) (hgd' : ∀ u, Region.wanted o' (yielded ops (a.put o.dst u).tmps) = true) (hgd : Region.wanted o (yielded ops a.tmps) = true) (hd : o.dst = some d) (hlt : d < a.tmps.size)
    (ho' : o'.op = .convert 26 26 (.tmp d)) (hk : 0 ≤ k ∧ k < 256)
    (h : ∀ u g n w', Below w.heap.size w w' → Rd w'.heap.size w' (.slice (some ⟨g, 0, none⟩) n n) [UInt8.ofNat k.toNat] → wpList Try.prog ops Q rest ((a.put (some d) u).put o'.dst (.slice (some ⟨g, 0, none⟩) n n)) w') : wpList Try.prog ops Q (o :: o' :: rest) a w :=
  wpList_const hP ho hgd' hgd hd hlt ho' [UInt8.ofNat k.toNat] (by
    simp [bv, Act.eval]
    omega) rfl (by simp) h
theorem run_pairs2 (w : World) (u v x y : Value) : (Instr.buildSlice 40 2 #[(0, .agg #[u, v]), (1, .agg #[x, y])]).run Try.prog w = .ok (.slice (some ⟨w.heap.size, 0, none⟩) 2 2) (w.alloc (.cells #[u, v, x, y] 53)) := by
  obtain ⟨i, z, hi, hz, hsz, hby, hzs⟩ := pqP.all
  kernel_rfl
theorem wpList_pairs2 {x1 x2 : Operand} {u v x y : Value} (ho : o.op = .buildSlice 40 2 #[(0, x1), (1, x2)]) (hgd : Region.wanted o (yielded ops a.tmps) = true) (e1 : a.eval x1 = .agg #[u, v]) (e2 : a.eval x2 = .agg #[x, y]) (_ : True = True)
    (h : ∀ w', Below w.heap.size w w' → w'.heap[w.heap.size]? = some (.cells #[u, v, x, y] 53 (0, 0)) → wpList Try.prog ops Q rest (a.put o.dst (.slice (some ⟨w.heap.size, 0, none⟩) 2 2)) w') : wpList Try.prog ops Q (o :: rest) a w := by
  refine BigFrame.wpList_want hgd fun K hK => ?_
  unfold Oper.wp execOp
  simp only [ho, List.map_toArray, List.map_cons, List.map_nil, e1, e2, Sem.run_bind, Sem.run_pure, Result.andThen_ok, run_pairs2]
  exact hK _ _ (h _ ((Below.refl _ _).alloc (Nat.le_refl _) _) (by simp only [World.alloc, Array.getElem?_push_size]))
theorem rdPairs2 {w w' : World} {g1 g2 : Option Addr} {k1 c1 k2 c2 : Nat} {p q : Pq} (hrow : w'.heap[w.heap.size]? = some (.cells #[.slice g1 k1 c1, .slice none 0 0, .slice g2 k2 c2, .slice none 0 0] 53 (0, 0))) (hb : Below w.heap.size w w') (h1 : RdS (fun _ => True) w (.slice g1 k1 c1) p.key) (h2 : RdS (fun _ => True) w (.slice g2 k2 c2) q.key) (hp : p.val = [] := by rfl) (hq : q.val = [] := by rfl) : RdL Elt.pq (fun _ => True) w' (.slice (some ⟨w.heap.size, 0, none⟩) 2 2) [p, q] := by
  have m1 : RdS (fun k => 0 ≤ k ∧ k < w'.heap.size ∧ some k ≠ some w.heap.size) w' (.slice g1 k1 c1) p.key := (h1.fit.below hb).weak fun k hk => ⟨Nat.zero_le _, by have := hb.size; omega, fun e => by injection e with e; omega⟩
  have m2 : RdS (fun k => 0 ≤ k ∧ k < w'.heap.size ∧ some k ≠ some w.heap.size) w' (.slice g2 k2 c2) q.key := (h2.fit.below hb).weak fun k hk => ⟨Nat.zero_le _, by have := hb.size; omega, fun e => by injection e with e; omega⟩
  have hO : OwnL Elt.pq 53 0 0 w' (.slice (some ⟨w.heap.size, 0, none⟩) 2 2) [p, q] := by
    refine ⟨[.slice g1 k1 c1, .slice none 0 0, .slice g2 k2 c2, .slice none 0 0], ⟨rfl, .inr ⟨w.heap.size, 2, _, rfl, Nat.zero_le _, hrow, Nat.le_refl _, by unfold maxLen; omega, rfl, rfl⟩⟩, ?_⟩
    refine ⟨[.slice g1 k1 c1, .slice none 0 0], [.slice g2 k2 c2, .slice none 0 0], rfl, ⟨_, _, rfl, m1, by rw [hp]; exact RdS.nil _ _⟩, [.slice g2 k2 c2, .slice none 0 0], [], rfl, ⟨_, _, rfl, m2, by rw [hq]; exact RdS.nil _ _⟩, rfl⟩
  exact hO.rdL.weak fun _ _ => trivial
end
set_option maxRecDepth 100000 in
set_option maxHeartbeats 8000000 in
theorem awake8_any (w : World) : Calls Try.prog 8 #[] w fun e w' => e = .returned (.bool true) ∧ Below w.heap.size w w' := by
  go_enter Try.func8, Try.ntmps8
  try dsimp only [List.append]
  have q := Below.refl w.heap.size w
  go_wp2_with (first | (have hx := hr1; refine wpList_byte1 byP rfl (fun _ => rfl) rfl rfl (by first | (simp; done) | (simp [Act.put]; done)) rfl (by decide) ?_; clear hx; intro u2 g2 k2 w2 hb2 hr2) | (refine wpList_byte1 byP rfl (fun _ => rfl) rfl rfl (by first | (simp; done) | (simp [Act.put]; done)) rfl (by decide) ?_; intro u1 g1 k1 w1 hb1 hr1) | fail)
  obtain rfl : k1 = 1 := hr1.s.len.1
  replace hr1 : RdS (fun _ => True) _ (.slice (some ⟨g1, 0, none⟩) 1 1) [98] := hr1.s.weak fun _ _ => trivial
  obtain rfl : k2 = 1 := hr2.s.len.1
  replace hr2 : RdS (fun _ => True) _ (.slice (some ⟨g2, 0, none⟩) 1 1) [118] := hr2.s.weak fun _ _ => trivial
  replace q := q.trans (hb1.mono q.size)
  replace hr1 := hr1.below hb2
  replace q := q.trans (hb2.mono q.size)
  clear hb1 hb2
  have hcl := dPut_any w2 (S := fun _ => True) (d := ⟨[], []⟩) (x := wB8) ⟨none, 0, none, 0, rfl, RdL.nil _ _ _, RdL.nil _ _ _⟩ sm8_0 ⟨_, _, _, _, rfl, hr1, hr2, by unfold W64 wB8; decide⟩ (by decide) (by decide)
  rw [put8_1] at hcl
  refine hcl.mono ?_
  rintro e w3 ⟨vA, rfl, ⟨aA, cA, mA, nA, rfl, rwA, rmA⟩, hb⟩
  clear hcl hr1 hr2
  replace rwA : RdL Elt.wr (fun _ => True) _ _ _ := rwA.weak fun _ _ => trivial
  replace rmA : RdL Elt.int (fun _ => True) _ _ _ := rmA.weak fun _ _ => trivial
  replace q := q.trans (hb.mono q.size)
  clear hb
  go_upto_region 2 with (first | (refine wpList_boxNew (vs := [.slice none 0 0, .slice none 0 0]) (by kernel_rfl) rfl rfl ?_; intro wa hba hBa) | (refine wpList_boxStore (us := [.slice aA dA8.writes.length cA, .slice mA dA8.marks.length nA]) (by kernel_rfl) rfl rfl rfl rfl rfl rfl hBa rfl ?_; intro w4 hgw xA) | fail)
  try go_simp
  have hbw := hba.grown hgw hba.size fun k hk => by injection hk with hk; omega
  replace rwA := rwA.below hbw
  replace rmA := rmA.below hbw
  replace q := q.trans (hbw.mono q.size)
  clear hbw hgw hba hBa
  have b0 := xA.cell (i := 0) rfl
  have b1 := xA.cell (i := 1) rfl
  go_wp2_with fail
  have hcl := dMark_any w4 ⟨aA, cA, mA, nA, rfl, rwA, rmA⟩ sm8_A
  rw [mark8] at hcl
  refine hcl.mono ?_
  rintro e w5 ⟨vB, rfl, ⟨aB, cB, mB, nB, rfl, rwB, rmB⟩, hb⟩
  clear hcl b0 b1
  replace rwB : RdL Elt.wr (fun _ => True) _ _ _ := rwB.weak fun _ _ => trivial
  replace rmB : RdL Elt.int (fun _ => True) _ _ _ := rmB.weak fun _ _ => trivial
  replace rwA := rwA.below hb
  replace rmA := rmA.below hb
  replace xA := xA.below hb xA.lt
  replace q := q.trans (hb.mono q.size)
  clear hb
  go_upto_region 3 with (first | (refine wpList_boxNew (vs := [.slice none 0 0, .slice none 0 0]) (by kernel_rfl) rfl rfl ?_; intro wa hba hBa) | (refine wpList_boxStore (us := [.slice aB dB8.writes.length cB, .slice mB dB8.marks.length nB]) (by kernel_rfl) rfl rfl rfl rfl rfl rfl hBa rfl ?_; intro w6 hgw xB) | fail)
  try go_simp
  have hbw := hba.grown hgw hba.size fun k hk => by injection hk with hk; omega
  replace rwA := rwA.below hbw
  replace rmA := rmA.below hbw
  replace xA := xA.below hbw xA.lt
  replace rwB := rwB.below hbw
  replace rmB := rmB.below hbw
  replace q := q.trans (hbw.mono q.size)
  clear hbw hgw hba hBa
  have b0 := xB.cell (i := 0) rfl
  have b1 := xB.cell (i := 1) rfl
  go_wp2_with (first | (have hx := hr1; refine wpList_byte1 byP rfl (fun _ => rfl) rfl rfl (by first | (simp; done) | (simp [Act.put]; done)) rfl (by decide) ?_; clear hx; intro u2 g2 k2 w2 hb2 hr2) | (refine wpList_byte1 byP rfl (fun _ => rfl) rfl rfl (by first | (simp; done) | (simp [Act.put]; done)) rfl (by decide) ?_; intro u1 g1 k1 w1 hb1 hr1) | fail)
  obtain rfl : k1 = 1 := hr1.s.len.1
  replace hr1 : RdS (fun _ => True) _ (.slice (some ⟨g1, 0, none⟩) 1 1) [97] := hr1.s.weak fun _ _ => trivial
  replace rwA := rwA.below hb1
  replace rmA := rmA.below hb1
  replace xA := xA.below hb1 xA.lt
  replace rwB := rwB.below hb1
  replace rmB := rmB.below hb1
  replace xB := xB.below hb1 xB.lt
  replace q := q.trans (hb1.mono q.size)
  clear hb1
  have hcl := dPut_any _ ⟨aB, cB, mB, nB, rfl, rwB, rmB⟩ sm8_B (x := wA8) ⟨_, _, none, 0, rfl, hr1, RdS.nil _ _, by unfold W64 wA8; decide⟩ (by decide) (by decide)
  rw [put8_2] at hcl
  refine hcl.mono ?_
  rintro e w7 ⟨vC, rfl, ⟨aC, cC, mC, nC, rfl, rwC, rmC⟩, hb⟩
  clear hcl b0 b1 hr1
  replace rwC : RdL Elt.wr (fun _ => True) _ _ _ := rwC.weak fun _ _ => trivial
  replace rmC : RdL Elt.int (fun _ => True) _ _ _ := rmC.weak fun _ _ => trivial
  replace rwA := rwA.below hb
  replace rmA := rmA.below hb
  replace xA := xA.below hb xA.lt
  replace rwB := rwB.below hb
  replace rmB := rmB.below hb
  replace xB := xB.below hb xB.lt
  replace q := q.trans (hb.mono q.size)
  clear hb
  go_upto_region 4 with (first | (refine wpList_boxNew (vs := [.slice none 0 0, .slice none 0 0]) (by kernel_rfl) rfl rfl ?_; intro wa hba hBa) | (refine wpList_boxStore (us := [.slice aC dC8.writes.length cC, .slice mC dC8.marks.length nC]) (by kernel_rfl) rfl rfl rfl rfl rfl rfl hBa rfl ?_; intro w8 hgw xC) | fail)
  try go_simp
  have hbw := hba.grown hgw hba.size fun k hk => by injection hk with hk; omega
  replace rwA := rwA.below hbw
  replace rmA := rmA.below hbw
  replace xA := xA.below hbw xA.lt
  replace rwB := rwB.below hbw
  replace rmB := rmB.below hbw
  replace xB := xB.below hbw xB.lt
  replace rwC := rwC.below hbw
  replace rmC := rmC.below hbw
  replace q := q.trans (hbw.mono q.size)
  clear hbw hgw hba hBa
  have b0 := xC.cell (i := 0) rfl
  have b1 := xC.cell (i := 1) rfl
  go_wp2_with (first | (have hx := hr1; refine wpList_byte1 byP rfl (fun _ => rfl) rfl rfl (by first | (simp; done) | (simp [Act.put]; done)) rfl (by decide) ?_; clear hx; intro u2 g2 k2 w2 hb2 hr2) | (refine wpList_byte1 byP rfl (fun _ => rfl) rfl rfl (by first | (simp; done) | (simp [Act.put]; done)) rfl (by decide) ?_; intro u1 g1 k1 w1 hb1 hr1) | fail)
  obtain rfl : k1 = 1 := hr1.s.len.1
  replace hr1 : RdS (fun _ => True) _ (.slice (some ⟨g1, 0, none⟩) 1 1) [97] := hr1.s.weak fun _ _ => trivial
  replace rwA := rwA.below hb1
  replace rmA := rmA.below hb1
  replace xA := xA.below hb1 xA.lt
  replace rwB := rwB.below hb1
  replace rmB := rmB.below hb1
  replace xB := xB.below hb1 xB.lt
  replace rwC := rwC.below hb1
  replace rmC := rmC.below hb1
  replace xC := xC.below hb1 xC.lt
  replace q := q.trans (hb1.mono q.size)
  clear hb1
  have hcl := dFind_any _ (t := 0) ⟨aC, cC, mC, nC, rfl, rwC, rmC⟩ sm8_C hr1
  rw [find8] at hcl
  refine hcl.mono ?_
  intro e w9 hE
  obtain ⟨vW, rfl, ⟨kW, lW, mW, nW, rfl, hkW, hvW, htW⟩, hb⟩ := fnd_some hE
  clear hcl hkW hvW htW b0 b1 hr1
  replace rwA := rwA.below hb
  replace rmA := rmA.below hb
  replace xA := xA.below hb xA.lt
  replace rwB := rwB.below hb
  replace rmB := rmB.below hb
  replace xB := xB.below hb xB.lt
  replace rwC := rwC.below hb
  replace rmC := rmC.below hb
  replace xC := xC.below hb xC.lt
  replace q := q.trans (hb.mono q.size)
  clear hb
  go_upto_region 5 with (first | (refine wpList_boxNew (vs := [.int .i64 0, .slice none 0 0, .bool false, .slice none 0 0]) (by kernel_rfl) rfl rfl ?_; intro wa hba hBa) | (refine wpList_boxStore (us := [.int .i64 0, .slice kW 1 lW, .bool true, .slice mW 0 nW]) (by kernel_rfl) rfl rfl rfl rfl rfl rfl hBa rfl ?_; intro w10 hgw xW) | fail)
  try go_simp
  have hbw := hba.grown hgw hba.size fun k hk => by injection hk with hk; omega
  replace rwA := rwA.below hbw
  replace rmA := rmA.below hbw
  replace xA := xA.below hbw xA.lt
  replace rwB := rwB.below hbw
  replace rmB := rmB.below hbw
  replace xB := xB.below hbw xB.lt
  replace rwC := rwC.below hbw
  replace rmC := rmC.below hbw
  replace xC := xC.below hbw xC.lt
  replace q := q.trans (hbw.mono q.size)
  clear hbw hgw hba hBa
  have b0 := xC.cell (i := 0) rfl
  have b1 := xC.cell (i := 1) rfl
  have hcl := dLast_any _ ⟨aC, cC, mC, nC, rfl, rwC, rmC⟩
  rw [last8] at hcl
  go_wp2_with fail
  refine hcl.mono ?_
  rintro e w11 ⟨aL, cL, rfl, hL, hb⟩
  have rL : RdL Elt.wr (fun _ => True) _ (.slice aL 2 cL) [wA8, wB8] := hL.rdL.weak fun _ _ => trivial
  clear hcl hL b0 b1
  replace rwA := rwA.below hb
  replace rmA := rmA.below hb
  replace xA := xA.below hb xA.lt
  replace rwB := rwB.below hb
  replace rmB := rmB.below hb
  replace xB := xB.below hb xB.lt
  replace rwC := rwC.below hb
  replace rmC := rmC.below hb
  replace xC := xC.below hb xC.lt
  replace xW := xW.below hb xW.lt
  replace q := q.trans (hb.mono q.size)
  clear hb
  go_upto_region 6 with (fail)
  have b0 := xC.cell (i := 0) rfl
  have b1 := xC.cell (i := 1) rfl
  go_wp2_with (first | (have hx := hr1; refine wpList_byte1 byP rfl (fun _ => rfl) rfl rfl (by first | (simp; done) | (simp [Act.put]; done)) rfl (by decide) ?_; clear hx; intro u2 g2 k2 w2 hb2 hr2) | (refine wpList_byte1 byP rfl (fun _ => rfl) rfl rfl (by first | (simp; done) | (simp [Act.put]; done)) rfl (by decide) ?_; intro u1 g1 k1 w1 hb1 hr1) | (refine wpList_pairs2 rfl rfl rfl rfl rfl ?_; intro w12 hb12 hrow) | fail)
  obtain rfl : k1 = 1 := hr1.s.len.1
  replace hr1 : RdS (fun _ => True) _ (.slice (some ⟨g1, 0, none⟩) 1 1) [97] := hr1.s.weak fun _ _ => trivial
  obtain rfl : k2 = 1 := hr2.s.len.1
  replace hr2 : RdS (fun _ => True) _ (.slice (some ⟨g2, 0, none⟩) 1 1) [99] := hr2.s.weak fun _ _ => trivial
  replace rwA := rwA.below hb1
  replace rmA := rmA.below hb1
  replace xA := xA.below hb1 xA.lt
  replace rwB := rwB.below hb1
  replace rmB := rmB.below hb1
  replace xB := xB.below hb1 xB.lt
  replace rwC := rwC.below hb1
  replace rmC := rmC.below hb1
  replace xC := xC.below hb1 xC.lt
  replace xW := xW.below hb1 xW.lt
  replace rL := rL.below hb1
  replace q := q.trans (hb1.mono q.size)
  replace hr1 := hr1.below hb2
  replace rwA := rwA.below hb2
  replace rmA := rmA.below hb2
  replace xA := xA.below hb2 xA.lt
  replace rwB := rwB.below hb2
  replace rmB := rmB.below hb2
  replace xB := xB.below hb2 xB.lt
  replace rwC := rwC.below hb2
  replace rmC := rmC.below hb2
  replace xC := xC.below hb2 xC.lt
  replace xW := xW.below hb2 xW.lt
  replace rL := rL.below hb2
  replace q := q.trans (hb2.mono q.size)
  have hl := rdPairs2 (p := ⟨[97], []⟩) (q := ⟨[99], []⟩) hrow hb12 hr1 hr2
  replace rwA := rwA.below hb12
  replace rmA := rmA.below hb12
  replace xA := xA.below hb12 xA.lt
  replace rwB := rwB.below hb12
  replace rmB := rmB.below hb12
  replace xB := xB.below hb12 xB.lt
  replace rwC := rwC.below hb12
  replace rmC := rmC.below hb12
  replace xC := xC.below hb12 xC.lt
  replace xW := xW.below hb12 xW.lt
  replace rL := rL.below hb12
  replace q := q.trans (hb12.mono q.size)
  clear hb1 hb2 hb12 hr1 hr2 hrow
  have hcl := dOver_any _ (x0 := ⟨0, [], [], true⟩) (S2 := fun _ => True) ⟨aC, cC, mC, nC, rfl, rwC, rmC⟩ ⟨none, 0, none, 0, rfl, RdS.nil _ _, RdS.nil _ _, by unfold W64; decide⟩ hl (by unfold smQ; simp) (by decide)
  rw [over8] at hcl
  refine hcl.mono ?_
  rintro e w13 ⟨aO, cO, rfl, hO, hb⟩
  have rO : RdL Elt.pq (fun _ => True) _ (.slice aO 2 cO) [⟨[98], [118]⟩, ⟨[99], []⟩] := hO.rdL.weak fun _ _ => trivial
  clear hcl hO hl b0 b1
  replace rwA := rwA.below hb
  replace rmA := rmA.below hb
  replace xA := xA.below hb xA.lt
  replace rwB := rwB.below hb
  replace rmB := rmB.below hb
  replace xB := xB.below hb xB.lt
  replace rwC := rwC.below hb
  replace rmC := rmC.below hb
  replace xC := xC.below hb xC.lt
  replace xW := xW.below hb xW.lt
  replace rL := rL.below hb
  replace q := q.trans (hb.mono q.size)
  clear hb
  go_upto_region 7 with (fail)
  have b0 := xC.cell (i := 0) rfl
  have b1 := xC.cell (i := 1) rfl
  go_wp2_with fail
  have hcl := dBack_any _ (i := 0) ⟨aC, cC, mC, nC, rfl, rwC, rmC⟩ sm8_C
  rw [back8_0] at hcl
  refine hcl.mono ?_
  rintro e w14 ⟨vD, rfl, ⟨aD, cD, mD, nD, rfl, rwD, rmD⟩, hb⟩
  clear hcl b0 b1
  replace rwD : RdL Elt.wr (fun _ => True) _ _ _ := rwD.weak fun _ _ => trivial
  replace rmD : RdL Elt.int (fun _ => True) _ _ _ := rmD.weak fun _ _ => trivial
  replace rwA := rwA.below hb
  replace rmA := rmA.below hb
  replace xA := xA.below hb xA.lt
  replace rwB := rwB.below hb
  replace rmB := rmB.below hb
  replace xB := xB.below hb xB.lt
  replace rwC := rwC.below hb
  replace rmC := rmC.below hb
  replace xC := xC.below hb xC.lt
  replace xW := xW.below hb xW.lt
  replace rL := rL.below hb
  replace rO := rO.below hb
  replace q := q.trans (hb.mono q.size)
  clear hb
  go_upto_region 8 with (first | (refine wpList_boxNew (vs := [.slice none 0 0, .slice none 0 0]) (by kernel_rfl) rfl rfl ?_; intro wa hba hBa) | (refine wpList_boxStore (us := [.slice aD dB8.writes.length cD, .slice mD dB8.marks.length nD]) (by kernel_rfl) rfl rfl rfl rfl rfl rfl hBa rfl ?_; intro w15 hgw xD) | fail)
  try go_simp
  have hbw := hba.grown hgw hba.size fun k hk => by injection hk with hk; omega
  replace rwA := rwA.below hbw
  replace rmA := rmA.below hbw
  replace xA := xA.below hbw xA.lt
  replace rwB := rwB.below hbw
  replace rmB := rmB.below hbw
  replace xB := xB.below hbw xB.lt
  replace rwC := rwC.below hbw
  replace rmC := rmC.below hbw
  replace xC := xC.below hbw xC.lt
  replace xW := xW.below hbw xW.lt
  replace rL := rL.below hbw
  replace rO := rO.below hbw
  replace rwD := rwD.below hbw
  replace rmD := rmD.below hbw
  replace q := q.trans (hbw.mono q.size)
  clear hbw hgw hba hBa
  have b0 := xC.cell (i := 0) rfl
  have b1 := xC.cell (i := 1) rfl
  go_wp2_with fail
  have hcl := dBack_any _ (i := 1) ⟨aC, cC, mC, nC, rfl, rwC, rmC⟩ sm8_C
  rw [back8_1] at hcl
  refine hcl.mono ?_
  rintro e w16 ⟨vE, rfl, ⟨aE, cE, mE, nE, rfl, rwE, rmE⟩, hb⟩
  clear hcl b0 b1
  replace rwE : RdL Elt.wr (fun _ => True) _ _ _ := rwE.weak fun _ _ => trivial
  replace rmE : RdL Elt.int (fun _ => True) _ _ _ := rmE.weak fun _ _ => trivial
  replace rwA := rwA.below hb
  replace rmA := rmA.below hb
  replace xA := xA.below hb xA.lt
  replace rwB := rwB.below hb
  replace rmB := rmB.below hb
  replace xB := xB.below hb xB.lt
  replace rwC := rwC.below hb
  replace rmC := rmC.below hb
  replace xC := xC.below hb xC.lt
  replace xW := xW.below hb xW.lt
  replace rL := rL.below hb
  replace rO := rO.below hb
  replace rwD := rwD.below hb
  replace rmD := rmD.below hb
  replace xD := xD.below hb xD.lt
  replace q := q.trans (hb.mono q.size)
  clear hb
  go_upto_region 9 with (first | (refine wpList_boxNew (vs := [.slice none 0 0, .slice none 0 0]) (by kernel_rfl) rfl rfl ?_; intro wa hba hBa) | (refine wpList_boxStore (us := [.slice aE dC8.writes.length cE, .slice mE dC8.marks.length nE]) (by kernel_rfl) rfl rfl rfl rfl rfl rfl hBa rfl ?_; intro w17 hgw xE) | fail)
  try go_simp
  have hbw := hba.grown hgw hba.size fun k hk => by injection hk with hk; omega
  replace rwA := rwA.below hbw
  replace rmA := rmA.below hbw
  replace xA := xA.below hbw xA.lt
  replace rwB := rwB.below hbw
  replace rmB := rmB.below hbw
  replace xB := xB.below hbw xB.lt
  replace rwC := rwC.below hbw
  replace rmC := rmC.below hbw
  replace xC := xC.below hbw xC.lt
  replace xW := xW.below hbw xW.lt
  replace rL := rL.below hbw
  replace rO := rO.below hbw
  replace rwD := rwD.below hbw
  replace rmD := rmD.below hbw
  replace xD := xD.below hbw xD.lt
  replace rwE := rwE.below hbw
  replace rmE := rmE.below hbw
  replace q := q.trans (hbw.mono q.size)
  clear hbw hgw hba hBa
  have b0 := xD.cell (i := 0) rfl
  have b1 := xD.cell (i := 1) rfl
  go_wp2_with (first | (have hx := hr1; refine wpList_byte1 byP rfl (fun _ => rfl) rfl rfl (by first | (simp; done) | (simp [Act.put]; done)) rfl (by decide) ?_; clear hx; intro u2 g2 k2 w2 hb2 hr2) | (refine wpList_byte1 byP rfl (fun _ => rfl) rfl rfl (by first | (simp; done) | (simp [Act.put]; done)) rfl (by decide) ?_; intro u1 g1 k1 w1 hb1 hr1) | fail)
  obtain rfl : k1 = 1 := hr1.s.len.1
  replace hr1 : RdS (fun _ => True) _ (.slice (some ⟨g1, 0, none⟩) 1 1) [97] := hr1.s.weak fun _ _ => trivial
  replace rwA := rwA.below hb1
  replace rmA := rmA.below hb1
  replace xA := xA.below hb1 xA.lt
  replace rwB := rwB.below hb1
  replace rmB := rmB.below hb1
  replace xB := xB.below hb1 xB.lt
  replace rwC := rwC.below hb1
  replace rmC := rmC.below hb1
  replace xC := xC.below hb1 xC.lt
  replace xW := xW.below hb1 xW.lt
  replace rL := rL.below hb1
  replace rO := rO.below hb1
  replace rwD := rwD.below hb1
  replace rmD := rmD.below hb1
  replace xD := xD.below hb1 xD.lt
  replace rwE := rwE.below hb1
  replace rmE := rmE.below hb1
  replace xE := xE.below hb1 xE.lt
  replace q := q.trans (hb1.mono q.size)
  clear hb1
  have hcl := dFind_any _ (t := 0) ⟨aD, cD, mD, nD, rfl, rwD, rmD⟩ sm8_B hr1
  rw [find8_n] at hcl
  refine hcl.mono ?_
  intro e w18 hE
  obtain ⟨vZ, rfl, ⟨kZ, lZ, mZ, nZ, rfl, hkZ, hvZ, htZ⟩, hb⟩ := fnd_none hE
  clear hcl hkZ hvZ htZ b0 b1 hr1
  replace rwA := rwA.below hb
  replace rmA := rmA.below hb
  replace xA := xA.below hb xA.lt
  replace rwB := rwB.below hb
  replace rmB := rmB.below hb
  replace xB := xB.below hb xB.lt
  replace rwC := rwC.below hb
  replace rmC := rmC.below hb
  replace xC := xC.below hb xC.lt
  replace xW := xW.below hb xW.lt
  replace rL := rL.below hb
  replace rO := rO.below hb
  replace rwD := rwD.below hb
  replace rmD := rmD.below hb
  replace xD := xD.below hb xD.lt
  replace rwE := rwE.below hb
  replace rmE := rmE.below hb
  replace xE := xE.below hb xE.lt
  replace q := q.trans (hb.mono q.size)
  clear hb
  go_upto_region 10 with (first | (refine wpList_boxNew (vs := [.int .i64 0, .slice none 0 0, .bool false, .slice none 0 0]) (by kernel_rfl) rfl rfl ?_; intro wa hba hBa) | (refine wpList_boxStore (us := [.int .i64 0, .slice kZ 0 lZ, .bool false, .slice mZ 0 nZ]) (by kernel_rfl) rfl rfl rfl rfl rfl rfl hBa rfl ?_; intro w19 hgw xZ) | fail)
  try go_simp
  have hbw := hba.grown hgw hba.size fun k hk => by injection hk with hk; omega
  replace rwA := rwA.below hbw
  replace rmA := rmA.below hbw
  replace xA := xA.below hbw xA.lt
  replace rwB := rwB.below hbw
  replace rmB := rmB.below hbw
  replace xB := xB.below hbw xB.lt
  replace rwC := rwC.below hbw
  replace rmC := rmC.below hbw
  replace xC := xC.below hbw xC.lt
  replace xW := xW.below hbw xW.lt
  replace rL := rL.below hbw
  replace rO := rO.below hbw
  replace rwD := rwD.below hbw
  replace rmD := rmD.below hbw
  replace xD := xD.below hbw xD.lt
  replace rwE := rwE.below hbw
  replace rmE := rmE.below hbw
  replace xE := xE.below hbw xE.lt
  replace q := q.trans (hbw.mono q.size)
  clear hbw hgw hba hBa
  have b0 := xC.cell (i := 0) rfl
  have b1 := xC.cell (i := 1) rfl
  go_wp2_with fail
  have hcl := dPut_any _ (S2 := fun _ => True) (x := ⟨4, [], false, []⟩) ⟨aC, cC, mC, nC, rfl, rwC, rmC⟩ sm8_C ⟨none, 0, none, 0, rfl, RdS.nil _ _, RdS.nil _ _, by unfold W64; decide⟩ (by decide) (by decide)
  rw [put8_3] at hcl
  refine hcl.mono ?_
  rintro e w20 ⟨vF, rfl, ⟨aF, cF, mF, nF, rfl, rwF, rmF⟩, hb⟩
  clear hcl b0 b1
  replace rwF : RdL Elt.wr (fun _ => True) _ _ _ := rwF.weak fun _ _ => trivial
  replace rmF : RdL Elt.int (fun _ => True) _ _ _ := rmF.weak fun _ _ => trivial
  replace rwA := rwA.below hb
  replace rmA := rmA.below hb
  replace xA := xA.below hb xA.lt
  replace rwB := rwB.below hb
  replace rmB := rmB.below hb
  replace xB := xB.below hb xB.lt
  replace rwC := rwC.below hb
  replace rmC := rmC.below hb
  replace xC := xC.below hb xC.lt
  replace xW := xW.below hb xW.lt
  replace rL := rL.below hb
  replace rO := rO.below hb
  replace rwD := rwD.below hb
  replace rmD := rmD.below hb
  replace xD := xD.below hb xD.lt
  replace rwE := rwE.below hb
  replace rmE := rmE.below hb
  replace xE := xE.below hb xE.lt
  replace xZ := xZ.below hb xZ.lt
  replace q := q.trans (hb.mono q.size)
  clear hb
  go_upto_region 11 with (first | (refine wpList_boxNew (vs := [.slice none 0 0, .slice none 0 0]) (by kernel_rfl) rfl rfl ?_; intro wa hba hBa) | (refine wpList_boxStore (us := [.slice aF dC8.writes.length cF, .slice mF dC8.marks.length nF]) (by kernel_rfl) rfl rfl rfl rfl rfl rfl hBa rfl ?_; intro w21 hgw xF) | fail)
  try go_simp
  have hbw := hba.grown hgw hba.size fun k hk => by injection hk with hk; omega
  replace rwA := rwA.below hbw
  replace rmA := rmA.below hbw
  replace xA := xA.below hbw xA.lt
  replace rwB := rwB.below hbw
  replace rmB := rmB.below hbw
  replace xB := xB.below hbw xB.lt
  replace rwC := rwC.below hbw
  replace rmC := rmC.below hbw
  replace xC := xC.below hbw xC.lt
  replace xW := xW.below hbw xW.lt
  replace rL := rL.below hbw
  replace rO := rO.below hbw
  replace rwD := rwD.below hbw
  replace rmD := rmD.below hbw
  replace xD := xD.below hbw xD.lt
  replace rwE := rwE.below hbw
  replace rmE := rmE.below hbw
  replace xE := xE.below hbw xE.lt
  replace xZ := xZ.below hbw xZ.lt
  replace rwF := rwF.below hbw
  replace rmF := rmF.below hbw
  replace q := q.trans (hbw.mono q.size)
  clear hbw hgw hba hBa
  clear rwA rmA xA rwB rmB xB rwE rmE xE rwF rmF xF xZ
  obtain ⟨bL, oL, KA, KC, VA, VC, rfl, _, l0, l1, l2, l3, hk0, hv0, _⟩ := rL.wr 0 (by decide)
  obtain ⟨bO, oO, PA, PC, PB, PD, rfl, _, p0, p1, hp0, _⟩ := rO.pq 0 (by decide)
  obtain ⟨bO2, oO2, RA, RC, RB, RD, e2, _, r0, r1, hp1, _⟩ := rO.pq 1 (by decide)
  injection e2 with e2; injection e2 with eb eo _; subst eb; subst eo
  replace l1 : _ = some (Value.slice KA 1 KC) := l1
  replace hk0 : RdS (fun _ => True) _ (.slice KA 1 KC) [97] := hk0
  replace p0 : _ = some (Value.slice PA 1 PC) := p0
  replace hp0 : RdS (fun _ => True) _ (.slice PA 1 PC) [98] := hp0
  replace r0 : _ = some (Value.slice RA 1 RC) := r0
  replace hp1 : RdS (fun _ => True) _ (.slice RA 1 RC) [99] := hp1
  replace xD : BoxN _ _ _ [.slice aD 1 cD, .slice mD 1 nD] := xD
  clear rL rO l0 l2 l3 hv0 p1 r1 rwD rmD
  rw [Nat.zero_mul, Nat.add_zero] at l1 p0
  rw [Nat.one_mul] at r0
  have hcl := dCheck_any _ ⟨aC, cC, mC, nC, rfl, rwC, rmC⟩
  rw [decide_eq_true ok8] at hcl
  clear rwC rmC
  have b0 := xC.cell (i := 0) rfl
  have b1 := xC.cell (i := 1) rfl
  have f0 := xW.cell (i := 0) rfl
  have f1 := xW.cell (i := 1) rfl
  have f2 := xW.cell (i := 2) rfl
  have f3 := xW.cell (i := 3) rfl
  have d0 := xD.cell (i := 0) rfl
  have d1 := xD.cell (i := 1) rfl
  have s1 : (strOf [97]).toList = [97] := strOf_listD _
  have s2 : (strOf [98]).toList = [98] := strOf_listD _
  have s3 : (strOf [99]).toList = [99] := strOf_listD _
  go_upto_region 12 with (fail)
  have cv1 := run_conv byP hk0.rd
  have cv2 := run_conv byP hp0.rd
  have cv3 := run_conv byP hp1.rd
  go_wp2_with (first | rw [cv1] | rw [cv2] | rw [cv3] | fail)
  refine hcl.mono ?_
  rintro e w22 ⟨rfl, hb⟩
  go_wp2_with fail
  go_ret
  exact ⟨rfl, q.trans (hb.mono q.size)⟩
end Go.Proofs.Ytjbdkhddnblieaa
namespace Go.Proofs.Ytjbdkhddnblieaa
theorem done_sub {w : Wr} {y : Pq} {l : List Pq} (h : y ∈ doneW w l) : y = ⟨w.key, w.val⟩ ∨ y ∈ l := by
  unfold doneW at h
  split at h
  · exact .inr (List.mem_filter.1 h).1
  · exact insE_mem h
theorem overW_sub {x : Sp} {y : Pq} : ∀ {ws : List Wr} {l : List Pq}, y ∈ overW x ws l → (∃ w ∈ ws, y = ⟨w.key, w.val⟩) ∨ y ∈ l
  | [], _, h => .inr h
  | w :: ws, l, h => by
    rw [overW_cons] at h
    rcases overW_sub h with ⟨u, hu, e⟩ | h
    · exact .inl ⟨u, List.mem_cons_of_mem _ hu, e⟩
    · unfold stepW at h
      split at h
      · rcases done_sub h with e | h
        · exact .inl ⟨w, List.mem_cons_self, e⟩
        · exact .inr h
      · exact .inr h
theorem overW_len {x : Sp} : ∀ (ws : List Wr) (l : List Pq), (overW x ws l).length ≤ l.length + ws.length
  | [], _ => Nat.le_refl _
  | w :: ws, l => by
    rw [overW_cons]
    have h1 := overW_len (x := x) ws (stepW x l w)
    have h2 : (stepW x l w).length ≤ l.length + 1 := by
      unfold stepW
      split
      · exact done_len w l
      · omega
    simp only [List.length_cons]
    omega
theorem over_sm {d : Dl} {x : Sp} {l : List Pq} (hl : shP l) (hd : fewD d) : smQ (overD d x l) ∧ (overD d x l).length ≤ 200 := by
  have hw : (lastD d).length ≤ 30 := by
    unfold lastD
    split
    · exact Nat.le_trans (last_len _) hd.1
    · simp
  have hm : ∀ w ∈ lastD d, w.key.length ≤ 100 ∧ w.val.length ≤ 100 := fun w h => by
    unfold lastD at h
    split at h
    · exact hd.2.2 w (last_mem h)
    · cases h
  have h3 : (overD d x l).length ≤ 200 := by
    unfold overD
    split
    · have := overW_len (x := x) (lastD d) l; have := hl.1; omega
    · have := hl.1; omega
  refine ⟨⟨by omega, fun y hy => ?_⟩, h3⟩
  unfold overD at hy
  split at hy
  · rcases overW_sub hy with ⟨w, h1, rfl⟩ | h1
    · have := hm w h1; exact ⟨by show w.key.length ≤ _; omega, by show w.val.length ≤ _; omega⟩
    · have := hl.2 y h1; omega
  · have := hl.2 y hy; omega
end Go.Proofs.Ytjbdkhddnblieaa
