/-
  TEXTS OF ONE PROOF, merged: StL, StO, StQ.
-/
import Derived.Test.YtlpfhgdnmjkngaaGreatKr13
namespace Go.Proofs.YtlpfhgdnmjkngaaGreat
open Go.RowKit Go.Shelf
def InEnd (w:World) (l:List Pr) (k:List UInt8) (x:Ver) (e:Ending) (w':World):Prop :=
 ∃ u m,e=.returned (.tuple #[u,.int .i64 ((inst1 l k x).2:Nat)])∧RdN (fun k=>w.heap.size≤k∧k<w'.heap.size) w' u m∧Below w.heap.size w w'∧((inst1 l k x).2=0→okN m∧pairsN m=(inst1 l k x).1)
theorem instV_len(l:List Ver)(x:Ver):(instV l x).1.length≤l.length+1:=by
 rcases instV_cases l x with⟨er,_,e⟩|⟨e,_⟩
 ·rw [e];simp
 ·rw [e];simp
theorem instV_mem {l:List Ver} {x z:Ver} (h:z∈(instV l x).1):z∈l∨z=x:=by
 rcases instV_cases l x with⟨er,_,e⟩|⟨e,_⟩
 ·rw [e] at h;exact .inl h
 ·rw [e] at h
  rcases List.mem_append.1 h with h | h
  ·exact .inl h
  ·exact .inr (List.mem_singleton.1 h)
theorem putP_len_le {l:List Pr}(h:Srt l)(k:List UInt8)(c:List Ver):(putP l k c).length≤l.length+1:=by
 rw [put_len h];split<;>omega
set_option maxRecDepth 100000 in
set_option maxHeartbeats 4000000 in
theorem sInstd_any (w : World) {S S2 S3 : Nat → Prop} {v : Value} {n : Nd} {A : Option Addr} {kn C : Nat} {k : List UInt8} {x : Ver} {Ax : Option Addr} {nx Cx : Nat} (hr : RdN S w v n) (hok : okN n) (hl : (pairsN n).length ≤ 60) (hch : ∀ p ∈ pairsN n,p.chain.length ≤ 900)
  (hk : RdS S2 w (.slice A kn C) k) (hkl : k.length ≤ 16) (hx : RdS S3 w (.slice Ax nx Cx) x.value) (hm : mayV x) :
  Calls Tryz.prog 48 #[v,.slice A kn C,.agg #[.int .i64 x.stamp,.bool x.gone,.slice Ax nx Cx]] w (InEnd w (pairsN n) k x) := by
 have hr0 := hr
 obtain ⟨hgood,hsrt⟩ := (okP_iff _).1 hok.2
 have hps : ∀ p ∈ pairsN n,smallV p.chain := fun p hp => okV_small (hgood p hp).1 (by have := hch p hp; omega)
 have hf : fitN n := ok_fit hok ⟨by omega,hps⟩
 have hpr : prN n = pairsN n := by unfold prN; rw [if_pos hok]
 obtain ⟨l,hle⟩ : ∃ l,l = pairsN n := ⟨_,rfl⟩
 obtain rfl := hx.len.1
 obtain rfl := hk.len.1
 obtain ⟨a1,c1,a2,c2,a3,c3,rfl,_,_,_⟩ := hr
 obtain ⟨w1,hw1⟩ : ∃ w1,w1 = w.alloc (.cells #[.slice a1 n.keys.length c1,.slice a2 n.chains.length c2,.slice a3 n.kids.length c3] 26) := ⟨_,rfl⟩
 obtain ⟨w2,hw2⟩ : ∃ w2,w2 = w1.alloc (.cells #[.int .i64 x.stamp,.bool x.gone,.slice Ax x.value.length Cx] 87) := ⟨_,rfl⟩
 obtain ⟨W,hW⟩ : ∃ W,W = w2.alloc (.cells #[.slice none 0 0,.slice none 0 0,.slice none 0 0] 26) := ⟨_,rfl⟩
 have hs1 : w1.heap.size = w.heap.size + 1 := by rw [hw1]; simp
 have hs2 : w2.heap.size = w.heap.size + 2 := by rw [hw2]; simp [hs1]
 have hsW : W.heap.size = w.heap.size + 3 := by rw [hW]; simp [hs2]
 have k2 : Below w2.heap.size w2 W := by rw [hW]; exact (Below.refl _ _).alloc (Nat.le_refl _) _
 have k1 : Below w1.heap.size w1 W := (show Below w1.heap.size w1 w2 by rw [hw2]; exact (Below.refl _ _).alloc (Nat.le_refl _) _).trans (k2.mono (by omega))
 have q : Below w.heap.size w W := (show Below w.heap.size w w1 by rw [hw1]; exact (Below.refl _ _).alloc (Nat.le_refl _) _).trans (k1.mono (by omega))
 have bn : TriV W w.heap.size 26 (.slice a1 n.keys.length c1) (.slice a2 n.chains.length c2) (.slice a3 n.kids.length c3) := (show TriV w1 w.heap.size 26 (.slice a1 n.keys.length c1) (.slice a2 n.chains.length c2) (.slice a3 n.kids.length c3) by rw [hw1]; exact TriV.new _ _ _ _ _).below k1 (by omega)
 have bv : TriV W (w.heap.size + 1) 87 (.int .i64 x.stamp) (.bool x.gone) (.slice Ax x.value.length Cx) := (show TriV w2 (w.heap.size + 1) 87 (.int .i64 x.stamp) (.bool x.gone) (.slice Ax x.value.length Cx) by
  have h := TriV.new w1 87 (.int .i64 x.stamp) (.bool x.gone) (.slice Ax x.value.length Cx)
  rw [hs1] at h
  rw [hw2]; exact h).below k2 (by omega)
 have bz : TriV W (w.heap.size + 2) 26 (.slice none 0 0) (.slice none 0 0) (.slice none 0 0) := by
  have h := TriV.new w2 26 (.slice none 0 0) (.slice none 0 0) (.slice none 0 0)
  rw [hs2] at h
  rw [hW]; exact h
 have hWW : ((w.alloc (.cells #[.slice a1 n.keys.length c1,.slice a2 n.chains.length c2,.slice a3 n.kids.length c3] 26)).alloc (.cells #[.int .i64 x.stamp,.bool x.gone,.slice Ax x.value.length Cx] 87)).alloc (.cells #[.slice none 0 0,.slice none 0 0,.slice none 0 0] 26) = W := by rw [hW,hw2,hw1]
 clear hs1 hs2 k1 k2 hw1 hw2 hW w1 w2
 have hfd := tFind_any W (hr0.below q) hf (hk.below q)
 rw [hpr,← hle] at hfd
 rw [← hle] at hl hch hps hsrt hgood ⊢
 obtain ⟨lo,hlo⟩ : ∃ lo,lo = (findP l k).getD [] := ⟨_,rfl⟩
 have hlos : lo.length ≤ 900 ∧ smallV lo := by
  rw [hlo]
  cases h : findP l k with
  | none => exact ⟨by simp,by simp,fun x hx => by simp at hx⟩
  | some c =>
   obtain ⟨p,hp,_,rfl⟩ := findP_some h
   exact ⟨hch p hp,hps p hp⟩
 have hnew : smallV (instV lo x).1 := ⟨by have := instV_len lo x; omega,fun z hz => by
  rcases instV_mem hz with h | rfl
  ·exact hlos.2.2 z h
  ·have := hm.2.2.1; omega⟩
 unfold FindEnd at hfd
 rw [← hlo] at hfd
 generalize (findP l k).isSome = fs at hfd
 obtain ⟨R,hR⟩ : ∃ R,R = instV lo x := ⟨_,rfl⟩
 have hi1 : inst1 l k x = if R.2 ≠ 0 then ([],R.2) else if 60 < (putP l k R.1).length then ([],40) else (putP l k R.1,0) := by
  unfold inst1
  rw [hR,hlo]
 have hRc : R.2 ≠ 0 ∨ (R.2 = 0 ∧ okV R.1 ∧ R.1 ≠ []) := by
  rcases instV_cases lo x with ⟨er,h1,h2⟩ | ⟨h1,h2,h3,h4⟩
  ·left; rw [hR,h2]; exact h1
  ·right
   rw [hR,h1]
   exact ⟨rfl,okV_snoc h2 h3 h4,by simp⟩
 rw [← hR] at hnew
 have hR2 : R.2 ≤ 50 := by
  rw [hR]
  unfold instV
  split
  ·split
   ·split <;> simp
   ·simp
  ·simp
 replace hlo := Lib.hid hlo
 replace hle := Lib.hid hle
 replace hR := Lib.hid hR
 replace hlos := Lib.hid hlos
 replace hpr := Lib.hid hpr
 replace hl := Lib.hid hl
 have hgo : ∀ (Q : Nat × List Pr) ,True := fun _ => trivial
 clear hgo
 have d0 := bn.cell0
 have d1 := bn.cell1
 have d2 := bn.cell2
 rcases hRc with hRe | ⟨hR0,hRk,hRn⟩
 ·have hi2 : inst1 l k x = ([],R.2) := by rw [hi1,if_pos hRe]
  rw [show InEnd w l k x = fun e w' => ∃ u m,e = .returned (.tuple #[u,.int .i64 (R.2 : Nat)]) ∧ RdN (fun k => w.heap.size ≤ k ∧ k < w'.heap.size) w' u m ∧ Below w.heap.size w w' ∧ (R.2 = 0 → False) from by
   funext e w'
   unfold InEnd
   rw [hi2]
   refine propext ⟨fun ⟨u,m,h1,h2,h3,_⟩ => ⟨u,m,h1,h2,h3,hRe⟩,fun ⟨u,m,h1,h2,h3,_⟩ => ⟨u,m,h1,h2,h3,fun h => absurd h hRe⟩⟩]
  have dR : ((R.2 : Int) != 0) = true := by rw [bne_iff_ne]; omega
  replace hi1 := Lib.hid hi1
  replace hi2 := Lib.hid hi2
  replace hRe := Lib.hid hRe
  go_enter Tryz.func48,Tryz.ntmps48
  go_upto_region 1 with (fail)
  (try rw [hWW])
  clear hWW
  go_wp2_with fail
  refine hfd.mono ?_
  rintro e W2 ⟨fa,fc,rfl,hfr,hb2⟩
  have bv2 := bv.below hb2 bv.lt
  have bz2 := bz.below hb2 bz.lt
  have q2 := q.trans (hb2.mono q.size)
  have x0 := bv2.cell0
  have x1 := bv2.cell1
  have x2 := bv2.cell2
  clear d0 d1 d2
  have hin := chInstall_any W2 (x := x) (hfr.weak fun _ _ => trivial) hlos.out.2 (((hx.below q).below hb2).weak fun _ _ => trivial) (by have := hm.2.2.1; omega) (mayV_i64 hm)
  unfold InstNew at hin
  rw [← hR.out] at hin
  go_wp2_with fail
  refine hin.mono ?_
  rintro e W3 ⟨ia,ic,rfl,hir,hb3⟩
  have bz3 := bz2.below hb3 bz2.lt
  have q3 := q2.trans (hb3.mono q2.size)
  have hs3 := q3.size
  clear x0 x1 x2
  go_wp2_with (first | (refine wpList_store3 (by kernel_rfl) rfl rfl rfl rfl rfl rfl rfl rfl bz3 (fun W9 hg9 bz9 => ?_)) | fail)
  have g0 := bz9.cell0
  have g1 := bz9.cell1
  have g2 := bz9.cell2
  obtain ⟨fs,hu,_,_⟩ := nodeS7.hu
  refine bodyPost_ret (v := .tuple #[.agg #[.slice none 0 0,.slice none 0 0,.slice none 0 0],.int .i64 (R.2 : Nat)]) (by simp [results,Tryz.results48,go_sem,loadVar,isAgg,run_underlying hu,run_sizeOf' nodeS7.hs,loadCellsFrom,Addr.add,g0,g1,g2]) rfl ?_
  exact ⟨_,.mk [] [] [],rfl,rdN_nil _ _,q3.trans ⟨hg9.os,hg9.tape,hg9.output,hg9.size,fun k hk => hg9.block k (by omega) (fun e => by injection e with e; omega)⟩,hRe.out⟩
 ·rcases Nat.lt_or_ge 60 (putP l k R.1).length with hc | hc
  ·have hi2 : inst1 l k x = ([],40) := by rw [hi1,if_neg (by rw [hR0]; simp),if_pos hc]
   rw [show InEnd w l k x = fun e w' => ∃ u m,e = .returned (.tuple #[u,.int .i64 (40 : Int)]) ∧ RdN (fun k => w.heap.size ≤ k ∧ k < w'.heap.size) w' u m ∧ Below w.heap.size w w' ∧ (True) from by
    funext e w'
    unfold InEnd
    rw [hi2]
    refine propext ⟨fun ⟨u,m,h1,h2,h3,_⟩ => ⟨u,m,h1,h2,h3,trivial⟩,fun ⟨u,m,h1,h2,h3,_⟩ => ⟨u,m,h1,h2,h3,fun h => by simp at h⟩⟩]
   have d9 : decide ((60 : Int) < ((putP l k R.1).length : Int)) = true := by simp; omega
   replace hi1 := Lib.hid hi1
   replace hi2 := Lib.hid hi2
   replace hc := Lib.hid hc
   replace hR0 := Lib.hid hR0
   go_enter Tryz.func48,Tryz.ntmps48
   go_upto_region 1 with (fail)
   (try rw [hWW])
   clear hWW
   go_wp2_with fail
   refine hfd.mono ?_
   rintro e W2 ⟨fa,fc,rfl,hfr,hb2⟩
   have bv2 := bv.below hb2 bv.lt
   have bz2 := bz.below hb2 bz.lt
   have bn2 := bn.below hb2 bn.lt
   have q2 := q.trans (hb2.mono q.size)
   have x0 := bv2.cell0
   have x1 := bv2.cell1
   have x2 := bv2.cell2
   clear d0 d1 d2
   have hin := chInstall_any W2 (x := x) (hfr.weak fun _ _ => trivial) hlos.out.2 (((hx.below q).below hb2).weak fun _ _ => trivial) (by have := hm.2.2.1; omega) (mayV_i64 hm)
   unfold InstNew at hin
   rw [← hR.out,hR0.out] at hin
   go_wp2_with fail
   refine hin.mono ?_
   rintro e W3 ⟨ia,ic,rfl,hir,hb3⟩
   have bz3 := bz2.below hb3 bz2.lt
   have bn3 := bn2.below hb3 bn2.lt
   have q3 := q2.trans (hb3.mono q2.size)
   have hs3 := q3.size
   clear x0 x1 x2
   have x0 := bn3.cell0
   have x1 := bn3.cell1
   have x2 := bn3.cell2
   have hpt := tPut_any W3 (hr0.below q3) hf (hk.below q3) (by omega) hir hnew
   go_wp2_with fail
   refine hpt.mono ?_
   rintro e W4 ⟨v4,m,er,rfl,hp4,hr4,hb4⟩
   obtain ⟨rfl,hmk,hmp⟩ : er = 0 ∧ okN m ∧ pairsN m = putP l k R.1 := by
    unfold PutIs at hp4
    rw [if_pos ⟨hok,hkl,hRk,hRn⟩,← hle.out] at hp4
    exact hp4
   clear hp4 hpt
   have hmf : fitN m := ok_fit hmk ⟨by rw [hmp]; have := putP_len_le hsrt k R.1; have := hl.out; omega,by rw [hmp]; exact few_put hsrt hps hnew⟩
   have hmq : prN m = putP l k R.1 := by unfold prN; rw [if_pos hmk,hmp]
   replace hmp := Lib.hid hmp
   obtain ⟨f0,h0,f1,h1,f2,h2,rfl,_,_,_⟩ := id hr4
   have bz4 := bz3.below hb4 bz3.lt
   have bn4 := bn3.below hb4 bn3.lt
   have hs4 := hb4.size
   clear x0 x1 x2
   go_wp2_with (first | (refine wpList_store3 (by kernel_rfl) rfl rfl rfl rfl rfl rfl rfl rfl bn4 (fun W5 hg5 bn5 => ?_); have x0 := bn5.cell0; have x1 := bn5.cell1; have x2 := bn5.cell2) | fail)
   have hne : ∀ j,j < W4.heap.size → j ≠ w.heap.size → W5.heap[j]? = W4.heap[j]? := fun j h1 h2 => hg5.block j h1 (fun e => h2 (by injection e))
   have hs5 := hg5.size
   have hm5 : RdN (fun k => w.heap.size + 3 ≤ k ∧ k < W5.heap.size) W5 (.agg #[.slice f0 m.keys.length h0,.slice f1 m.chains.length h1,.slice f2 m.kids.length h2]) m := (hr4.keep fun j hj => hne j hj.2 (by have := bz3.lt; omega)).weak fun j hj => ⟨by have := bz3.lt; omega,by omega⟩
   have bz5 : TriV W5 (w.heap.size + 2) 26 _ _ _ := (hne _ bz4.lt (by omega)).trans bz4
   have q5 : Below w.heap.size w W5 := (q3.trans (hb4.mono hs3)).trans ⟨hg5.os,hg5.tape,hg5.output,hs5,fun j hj => hne j (by omega) (by omega)⟩
   have hmn := tMany_any W5 hm5 hmf
   rw [hmq] at hmn
   replace hmq := Lib.hid hmq
   refine hmn.mono ?_
   rintro e W6 ⟨rfl,hb6⟩
   have bz6 := bz5.below hb6 bz5.lt
   have bn6 := bn5.below hb6 bn5.lt
   have hm6 := hm5.below hb6
   have q6 := q5.trans (hb6.mono q5.size)
   have hs6 := hb6.size
   clear x0 x1 x2
   have x0 := bn6.cell0
   have x1 := bn6.cell1
   have x2 := bn6.cell2
   go_wp2_with (first | (refine wpList_store3 (by kernel_rfl) rfl rfl rfl rfl rfl rfl rfl rfl bz6 (fun W9 hg9 bz9 => ?_)) | fail)
   have hq9 : Below w.heap.size w W9 := q6.trans ⟨hg9.os,hg9.tape,hg9.output,hg9.size,fun k hk => hg9.block k (by have := q6.size; omega) (fun e => by injection e with e; omega)⟩
   have g0 := bz9.cell0
   have g1 := bz9.cell1
   have g2 := bz9.cell2
   obtain ⟨fs,hu,_,_⟩ := nodeS7.hu
   refine bodyPost_ret (v := .tuple #[.agg #[.slice none 0 0,.slice none 0 0,.slice none 0 0],.int .i64 40]) (by simp [results,Tryz.results48,go_sem,loadVar,isAgg,run_underlying hu,run_sizeOf' nodeS7.hs,loadCellsFrom,Addr.add,g0,g1,g2]) rfl ?_
   exact ⟨_,.mk [] [] [],rfl,rdN_nil _ _,hq9,trivial⟩
  ·have hi2 : inst1 l k x = (putP l k R.1,0) := by rw [hi1,if_neg (by rw [hR0]; simp),if_neg (Nat.not_lt.2 hc)]
   rw [show InEnd w l k x = fun e w' => ∃ u m,e = .returned (.tuple #[u,.int .i64 (0 : Int)]) ∧ RdN (fun k => w.heap.size ≤ k ∧ k < w'.heap.size) w' u m ∧ Below w.heap.size w w' ∧ (okN m ∧ pairsN m = putP l k R.1) from by
    funext e w'
    unfold InEnd
    rw [hi2]
    refine propext ⟨fun ⟨u,m,h1,h2,h3,h4⟩ => ⟨u,m,h1,h2,h3,h4 rfl⟩,fun ⟨u,m,h1,h2,h3,h4⟩ => ⟨u,m,h1,h2,h3,fun _ => h4⟩⟩]
   have d9 : decide ((60 : Int) < ((putP l k R.1).length : Int)) = false := by simp; omega
   replace hi1 := Lib.hid hi1
   replace hi2 := Lib.hid hi2
   replace hc := Lib.hid hc
   replace hR0 := Lib.hid hR0
   go_enter Tryz.func48,Tryz.ntmps48
   go_upto_region 1 with (fail)
   (try rw [hWW])
   clear hWW
   go_wp2_with fail
   refine hfd.mono ?_
   rintro e W2 ⟨fa,fc,rfl,hfr,hb2⟩
   have bv2 := bv.below hb2 bv.lt
   have bz2 := bz.below hb2 bz.lt
   have bn2 := bn.below hb2 bn.lt
   have q2 := q.trans (hb2.mono q.size)
   have x0 := bv2.cell0
   have x1 := bv2.cell1
   have x2 := bv2.cell2
   clear d0 d1 d2
   have hin := chInstall_any W2 (x := x) (hfr.weak fun _ _ => trivial) hlos.out.2 (((hx.below q).below hb2).weak fun _ _ => trivial) (by have := hm.2.2.1; omega) (mayV_i64 hm)
   unfold InstNew at hin
   rw [← hR.out,hR0.out] at hin
   go_wp2_with fail
   refine hin.mono ?_
   rintro e W3 ⟨ia,ic,rfl,hir,hb3⟩
   have bz3 := bz2.below hb3 bz2.lt
   have bn3 := bn2.below hb3 bn2.lt
   have q3 := q2.trans (hb3.mono q2.size)
   have hs3 := q3.size
   clear x0 x1 x2
   have x0 := bn3.cell0
   have x1 := bn3.cell1
   have x2 := bn3.cell2
   have hpt := tPut_any W3 (hr0.below q3) hf (hk.below q3) (by omega) hir hnew
   go_wp2_with fail
   refine hpt.mono ?_
   rintro e W4 ⟨v4,m,er,rfl,hp4,hr4,hb4⟩
   obtain ⟨rfl,hmk,hmp⟩ : er = 0 ∧ okN m ∧ pairsN m = putP l k R.1 := by
    unfold PutIs at hp4
    rw [if_pos ⟨hok,hkl,hRk,hRn⟩,← hle.out] at hp4
    exact hp4
   clear hp4 hpt
   have hmf : fitN m := ok_fit hmk ⟨by rw [hmp]; have := putP_len_le hsrt k R.1; have := hl.out; omega,by rw [hmp]; exact few_put hsrt hps hnew⟩
   have hmq : prN m = putP l k R.1 := by unfold prN; rw [if_pos hmk,hmp]
   replace hmp := Lib.hid hmp
   obtain ⟨f0,g0,f1,g1,f2,g2,rfl,_,_,_⟩ := id hr4
   have bz4 := bz3.below hb4 bz3.lt
   have bn4 := bn3.below hb4 bn3.lt
   have hs4 := hb4.size
   clear x0 x1 x2
   go_wp2_with (first | (refine wpList_store3 (by kernel_rfl) rfl rfl rfl rfl rfl rfl rfl rfl bn4 (fun W5 hg5 bn5 => ?_); have x0 := bn5.cell0; have x1 := bn5.cell1; have x2 := bn5.cell2) | fail)
   have hne : ∀ j,j < W4.heap.size → j ≠ w.heap.size → W5.heap[j]? = W4.heap[j]? := fun j h1 h2 => hg5.block j h1 (fun e => h2 (by injection e))
   have hs5 := hg5.size
   have hm5 : RdN (fun k => w.heap.size + 3 ≤ k ∧ k < W5.heap.size) W5 (.agg #[.slice f0 m.keys.length g0,.slice f1 m.chains.length g1,.slice f2 m.kids.length g2]) m := (hr4.keep fun j hj => hne j hj.2 (by have := bz3.lt; omega)).weak fun j hj => ⟨by have := bz3.lt; omega,by omega⟩
   have bz5 : TriV W5 (w.heap.size + 2) 26 _ _ _ := (hne _ bz4.lt (by omega)).trans bz4
   have q5 : Below w.heap.size w W5 := (q3.trans (hb4.mono hs3)).trans ⟨hg5.os,hg5.tape,hg5.output,hs5,fun j hj => hne j (by omega) (by omega)⟩
   have hmn := tMany_any W5 hm5 hmf
   rw [hmq] at hmn
   replace hmq := Lib.hid hmq
   refine hmn.mono ?_
   rintro e W6 ⟨rfl,hb6⟩
   have bz6 := bz5.below hb6 bz5.lt
   have bn6 := bn5.below hb6 bn5.lt
   have hm6 := hm5.below hb6
   have q6 := q5.trans (hb6.mono q5.size)
   have hs6 := hb6.size
   clear x0 x1 x2
   have x0 := bn6.cell0
   have x1 := bn6.cell1
   have x2 := bn6.cell2
   go_wp2_with (first | (refine wpList_store3 (by kernel_rfl) rfl rfl rfl rfl rfl rfl rfl rfl bz6 (fun W9 hg9 bz9 => ?_)) | fail)
   have hq9 : Below w.heap.size w W9 := q6.trans ⟨hg9.os,hg9.tape,hg9.output,hg9.size,fun k hk => hg9.block k (by have := q6.size; omega) (fun e => by injection e with e; omega)⟩
   have y0 := bz9.cell0
   have y1 := bz9.cell1
   have y2 := bz9.cell2
   obtain ⟨fs,hu,_,_⟩ := nodeS7.hu
   refine bodyPost_ret (v := .tuple #[.agg #[.slice f0 m.keys.length g0,.slice f1 m.chains.length g1,.slice f2 m.kids.length g2],.int .i64 0]) (by simp [results,Tryz.results48,go_sem,loadVar,isAgg,run_underlying hu,run_sizeOf' nodeS7.hs,loadCellsFrom,Addr.add,y0,y1,y2]) rfl ?_
   exact ⟨_,m,rfl,(hm6.keep fun k hk => hg9.block k (by omega) (fun e => by injection e with e; omega)).weak fun k hk => ⟨by omega,by have := hg9.size; omega⟩,hq9,hmk,hmp.out⟩
end Go.Proofs.YtlpfhgdnmjkngaaGreat
namespace Go.Proofs.YtlpfhgdnmjkngaaGreat
open Go.RowKit Go.Shelf
def FndW(p:Wr→Bool)(l:List Wr)(v:Int):Prop:=(v=-1∧∀ y∈l,p y=false)∨∃(j:Nat)(h:j<l.length),v=(j:Int)∧p l[j]=true∧∀ y∈l.take j,p y=false
def TellsW (F:FuncId) (bs caps:Array Value) (S:Nat→Prop) (w:World) (p:Wr→Bool):Prop :=
 ∀ (W:World) (v:Value) (x:Wr),Below w.heap.size w W→RdWr S W v x→Calls Tryz.prog F (bs++#[v]++caps) W fun e W'=>e=.returned (.bool (p x))∧Below W.heap.size W W'
set_option maxRecDepth 100000 in
set_option maxHeartbeats 4000000 in
theorem wIndex_any (w : World) {S : Nat → Prop} {a : Option Addr} {n c : Nat} {l : List Wr} (hl : RdL Elt.wr S w (.slice a n c) l) (F : FuncId) (bs caps : Array Value) (hE : Enters Tryz.prog F) (p : Wr → Bool) (hF : TellsW F bs caps S w p) :
  Calls Tryz.prog 65 #[.slice a n c,.func (.func F) bs caps] w fun e w' => ∃ i : Int,e = .returned (.int .i64 i) ∧ FndW p l i ∧ Below w.heap.size w w' := by
 obtain ⟨rfl,hnc,hcm⟩ := hl.len
 have hlm : l.length ≤ 9223372036854775807 := by unfold maxLen at hcm; omega
 have hEE := hE
 unfold Enters at hEE
 have q := Below.refl w.heap.size w
 go_enter Tryz.func65,Tryz.ntmps65
 go_upto_region 2 with (fail)
 go_loopw [5,8] (fun _ iv wr => ∃ (k : Nat),iv = .int .i64 k ∧ k ≤ l.length ∧ (∀ x ∈ l.take k,p x = false) ∧ Below w.heap.size w wr)
  (fun _ i _ => l.length - (intOf i).toNat)
 case atStart => exact ⟨0,rfl,Nat.zero_le _,by simp,q⟩
 case round =>
  clear q
  obtain ⟨k,rfl,hkl,hall,q⟩ := hrel
  replace hall := Lib.hid hall
  rcases Nat.lt_or_ge k l.length with hlt | hge
  ·obtain ⟨b,off,A,C,A2,C2,rfl,hb,c0,c1,c2,c3,hk1,hk2,hw64⟩ := (hl.below q).wr k hlt
   have hw : RdWr S wr (.agg #[.int .i64 l[k].table,.slice A l[k].key.length C,.bool l[k].gone,.slice A2 l[k].val.length C2]) l[k] := ⟨A,C,A2,C2,rfl,hk1,hk2,hw64⟩
   go_upto_region 4 with (fail)
   go_wp2_with fail
   refine (hF wr _ _ q hw).mono ?_
   rintro e w1 ⟨rfl,hb1⟩
   replace q := q.trans (hb1.mono q.size)
   clear c0 c1 c2 c3 hk1 hk2 hw
   cases hm : p l[k] with
   | false =>
    have hall2 := Lib.hid (show ∀ x ∈ l.take (k + 1),p x = false from fun x hx => by
     rw [List.take_succ_eq_append_getElem hlt] at hx
     rcases List.mem_append.1 hx with h | h
     ·exact hall.out x h
     ·simp at h; rw [h]; exact hm)
    clear hall hm
    go_wp2_with fail
    go_roundw
    case rel => exact ⟨k + 1,by go_num,by omega,hall2.out,q⟩
    case measure => simp [intOf]; omega
   | true =>
    replace hm := Lib.hid hm
    go_wp2_with fail
    go_ret
    exact ⟨_,rfl,.inr ⟨k,hlt,rfl,hm.out,hall.out⟩,q⟩
  ·obtain rfl : k = l.length := by omega
   have hno := Lib.hid (show ∀ x ∈ l,p x = false from fun x hx => hall.out x (by rw [List.take_length]; exact hx))
   clear hall
   go_wp2_with fail
   go_ret
   exact ⟨_,rfl,.inl ⟨rfl,hno.out⟩,q⟩
theorem fndW_any {p : Wr → Bool} {l : List Wr} {i : Int} (h : FndW p l i) : decide (0 ≤ i) = l.any p := by
 rcases h with ⟨h1,h2⟩ | ⟨j,h1,h2,h3,_⟩
 ·rw [decide_eq_false (by omega),List.any_eq_false.2 fun x hx => by simp [h2 x hx]]
 ·rw [decide_eq_true (by omega),List.any_eq_true.2 ⟨_,List.getElem_mem h1,h3⟩]
set_option maxRecDepth 100000 in
set_option maxHeartbeats 4000000 in
theorem wContains_any (w:World) {S:Nat→Prop} {a:Option Addr} {n c:Nat} {l:List Wr} (hl:RdL Elt.wr S w (.slice a n c) l) (F:FuncId) (bs caps:Array Value) (hE:Enters Tryz.prog F) (p:Wr→Bool) (hF:TellsW F bs caps S w p) :
  Calls Tryz.prog 46 #[.slice a n c,.func (.func F) bs caps] w fun e w'=>e=.returned (.bool (l.any p))∧Below w.heap.size w w':=by
 go_enter Tryz.func46,Tryz.ntmps46
 go_wp2_with fail
 refine (wIndex_any w hl F bs caps hE p hF).mono ?_
 rintro e w1⟨i,rfl,hi,hb⟩
 have hd:=Lib.hid (fndW_any hi)
 clear hi
 go_wp2_with fail
 go_ret
 exact⟨by first | (rw [hd.out];done) | (rw [← hd.out];rfl),hb⟩
def badW (s:Int) (x:Wr):Bool:=!(decide (0≤x.table)&&decide (x.table<4)&&(decide (x.key.length≤16)&&decide (okV [verW x s])))
theorem one_wr {S : Nat → Prop} {W : World} {x : Wr} {A2 : Option Addr} {C2 : Nat} {s : Int} {g : Nat} (hv : RdS S W (.slice A2 x.val.length C2) x.val) (hi : I64' s) (hb : BoxN W g 87 [.int .i64 s,.bool x.gone,.slice A2 x.val.length C2]) : RdL Elt.ver (fun k => S k ∨ k = g) W (.slice (some ⟨g,0,none⟩) 1 1) [verW x s] :=
 ⟨some ⟨g,0,none⟩,1,rfl,Nat.le_refl _,by unfold maxLen; omega,.inr ⟨g,0,rfl,.inr rfl,fun r hr => by
  obtain rfl : r = 0 := by simp at hr; omega
  exact ⟨_,⟨_,rfl,hv.weak fun _ h => .inl h,hi⟩,fun j u hj => by simpa using hb.cell hj⟩⟩⟩
set_option maxRecDepth 100000 in
set_option maxHeartbeats 4000000 in
theorem wrongI_any (w : World) {S : Nat → Prop} {v : Value} {x : Wr} {sb : Nat} {s : Int} (hx : RdWr S w v x) (hs : w.cell? ⟨sb,0,none⟩ = some (.int .i64 s)) (hi : I64' s) : Calls Tryz.prog 42 #[v,.pointer (some ⟨sb,0,none⟩)] w fun e w' => e = .returned (.bool (badW s x)) ∧ Below w.heap.size w w' := by
 obtain ⟨a,c,a2,c2,rfl,hk,hv,h64⟩ := hx
 have hsl := cell_lt hs
 obtain ⟨W,hW⟩ : ∃ W,W = w.alloc (.cells #[.int .i64 x.table,.slice a x.key.length c,.bool x.gone,.slice a2 x.val.length c2] 51) := ⟨_,rfl⟩
 have q : Below w.heap.size w W := by rw [hW]; exact (Below.refl _ _).alloc (Nat.le_refl _) _
 have bx : BoxN W w.heap.size 51 [.int .i64 x.table,.slice a x.key.length c,.bool x.gone,.slice a2 x.val.length c2] := by rw [hW]; exact BoxN.new _ _ _
 have hsW : W.cell? ⟨sb,0,none⟩ = some (.int .i64 s) := (q.cell (p := ⟨sb,0,none⟩) hsl).trans hs
 have hvW := hv.below q
 have c0 := bx.cell (i := 0) rfl
 have c1 := bx.cell (i := 1) rfl
 have c3 := bx.cell (i := 2) rfl
 have c4 := bx.cell (i := 3) rfl
 have hkn := known_any W x.table
 go_enter Tryz.func42,Tryz.ntmps42
 go_upto_region 1 with (fail)
 rw [← hW]
 clear hW
 cases hkb : (decide (0 ≤ x.table) && decide (x.table < 4)) with
 | false =>
  rw [hkb] at hkn
  have H := Lib.hid (show badW s x = true by unfold badW; rw [hkb]; rfl)
  go_wp2_with fail
  refine hkn.mono ?_
  rintro e W' ⟨rfl,hw'⟩
  obtain rfl : W = W' := hw'.symm
  go_wp2_with fail
  go_ret
  exact ⟨by first | (rw [H.out]; done) | (rw [H.out]; rfl),q⟩
 | true =>
  rw [hkb] at hkn
  go_wp2_with fail
  refine hkn.mono ?_
  rintro e W' ⟨rfl,hw'⟩
  obtain rfl : W = W' := hw'.symm
  rcases Nat.lt_or_ge 16 x.key.length with h16 | h16
  ·have d1 : decide ((16 : Int) < (x.key.length : Int)) = true := by simp; omega
   have H := Lib.hid (show badW s x = true by unfold badW; rw [hkb,decide_eq_false (Nat.not_le.2 h16)]; rfl)
   clear h16
   go_wp2_with fail
   go_ret
   exact ⟨by first | (rw [H.out]; done) | (rw [H.out]; rfl),q⟩
  ·have d1 : decide ((16 : Int) < (x.key.length : Int)) = false := by simp; omega
   have H := Lib.hid (show badW s x = !decide (okV [verW x s]) by unfold badW; rw [hkb,decide_eq_true h16]; rfl)
   clear h16
   have hve := version_any W x a a2 c c2 s
   go_wp2_with fail
   refine hve.mono ?_
   rintro e W2 ⟨rfl,hb2⟩
   obtain ⟨W3,hW3⟩ : ∃ W3,W3 = W2.alloc (.cells #[.int .i64 s,.bool x.gone,.slice a2 x.val.length c2] 87) := ⟨_,rfl⟩
   have hb3 : Below W2.heap.size W2 W3 := by rw [hW3]; exact (Below.refl _ _).alloc (Nat.le_refl _) _
   have b3 : BoxN W3 W2.heap.size 87 [.int .i64 s,.bool x.gone,.slice a2 x.val.length c2] := by rw [hW3]; exact BoxN.new _ _ _
   have hch := chCheck_any W3 (one_wr ((hvW.below hb2).below hb3) hi b3)
   have q3 := q.trans ((hb2.mono q.size).trans (hb3.mono (by have := q.size; have := hb2.size; omega)))
   go_wp2_with fail
   rw [← hW3]
   refine hch.mono ?_
   rintro e W4 ⟨rfl,hb4⟩
   go_wp2_with fail
   go_ret
   exact ⟨by first | (rw [H.out]; done) | (rw [H.out]; rfl),q3.trans (hb4.mono q3.size)⟩
end Go.Proofs.YtlpfhgdnmjkngaaGreat
namespace Go.Proofs.YtlpfhgdnmjkngaaGreat
def instI (T:Sto) (s:Int) (l:List Wr):Tb×Nat:=if okS T∧1≤s∧s<2147483648∧l.any (badW s)=false then goI (tabS T) (tabS T) s l else (tabS T,1)
theorem bad_no {s:Int} {x:Wr} (h:badW s x=false):0≤x.table∧x.table<4∧x.key.length≤16∧mayV (verW x s):=by
 unfold badW at h
 simp only [Bool.not_eq_false',Bool.and_eq_true,decide_eq_true_eq] at h
 obtain⟨⟨h1,h2⟩,h3,h4⟩:=h
 exact⟨h1,h2,h3,(h4 0 (by simp)).1⟩
structure InS (T:Sto) (s:Int) (l:List Wr) (K i:Nat) (T':Sto) (Lc:Tb):Prop where
 go:goI (tabS T) (tabS T) s l=goI (tabS T) Lc s (l.drop i)
 ok:∀ j,j<4→okN (T' j)∧pairsN (T' j)=Lc j
 len:∀ j,j<4→(Lc j).length≤60
 ch:∀ j,j<4→∀ p∈Lc j,p.chain.length≤K+i
theorem InS.start {T:Sto} {s:Int} {l:List Wr} {K:Nat} (hk:okS T) (hc:∀ j,j<4→∀ p∈prN (T j),p.chain.length≤K):InS T s l K 0 T (tabS T) where
 go:=rfl
 ok j hj:=⟨(hk j hj).1,by unfold tabS prN;rw [if_pos (hk j hj).1]⟩
 len j hj:=(hk j hj).2
 ch:=hc
theorem InS.err {T T':Sto} {s:Int} {l:List Wr} {K i:Nat} {Lc:Tb} (h:InS T s l K i T' Lc) (hi:i<l.length) (he:(inst1 (Lc l[i].table.toNat) l[i].key (verW l[i] s)).2≠0):goI (tabS T) (tabS T) s l=(tabS T,(inst1 (Lc l[i].table.toNat) l[i].key (verW l[i] s)).2):=by
 rw [h.go,List.drop_eq_getElem_cons hi]
 unfold goI
 rw [if_pos he]
theorem putP_mem {l:List Pr}(h:Srt l) {k:List UInt8} {c:List Ver} {p:Pr}(hp:p∈putP l k c):p=⟨k,c⟩∨p∈l:=by
 rw [putP_ins h] at hp
 exact ins_mem hp
theorem InS.step {T T':Sto} {s:Int} {l:List Wr} {K i:Nat} {Lc:Tb} (h:InS T s l K i T' Lc) (hi:i<l.length) (hb:badW s l[i]=false) (he:(inst1 (Lc l[i].table.toNat) l[i].key (verW l[i] s)).2=0) {m:Nd} (hm:okN m∧pairsN m=(inst1 (Lc l[i].table.toNat) l[i].key (verW l[i] s)).1) :
  InS T s l K (i+1) (fun j=>if j=l[i].table.toNat then m else T' j) (fun j=>if j=l[i].table.toNat then (inst1 (Lc l[i].table.toNat) l[i].key (verW l[i] s)).1 else Lc j):=by
 obtain⟨b1,b2,_,_⟩:=bad_no hb
 have ht:l[i].table.toNat<4:=by omega
 have hsr:Srt (Lc l[i].table.toNat):=by
  rw [← (h.ok _ ht).2]
  exact okN_srt (h.ok _ ht).1
 have hst:(inst1 (Lc l[i].table.toNat) l[i].key (verW l[i] s)).1=putP (Lc l[i].table.toNat) l[i].key (instV ((findP (Lc l[i].table.toNat) l[i].key).getD []) (verW l[i] s)).1∧(putP (Lc l[i].table.toNat) l[i].key (instV ((findP (Lc l[i].table.toNat) l[i].key).getD []) (verW l[i] s)).1).length≤60:=by
  revert he
  unfold inst1
  dsimp only
  split
  ·rename_i h1;intro h2;exact absurd h2 h1
  ·split
   ·intro h2;cases h2
   ·rename_i h2;exact fun _=>⟨rfl,by omega⟩
 refine⟨?_,fun j hj=>?_,fun j hj=>?_,fun j hj p hp=>?_⟩
 ·rw [h.go,List.drop_eq_getElem_cons hi]
  conv=>lhs;unfold goI
  rw [if_neg (by rw [he];simp)]
  have:setT Lc l[i].table (inst1 (Lc l[i].table.toNat) l[i].key (verW l[i] s)).1=fun j=>if j=l[i].table.toNat then (inst1 (Lc l[i].table.toNat) l[i].key (verW l[i] s)).1 else Lc j:=by
   funext j
   unfold setT
   by_cases e:j=l[i].table.toNat
   ·rw [if_pos e,if_pos (by omega)]
   ·rw [if_neg e,if_neg (by omega)]
  rw [this]
 ·split
  ·exact hm
  ·exact h.ok j hj
 ·split
  ·rw [hst.1];exact hst.2
  ·exact h.len j hj
 ·split at hp
  ·rw [hst.1] at hp
   rcases putP_mem hsr hp with rfl | hp
   ·have h1:=instV_len ((findP (Lc l[i].table.toNat) l[i].key).getD []) (verW l[i] s)
    have h2:((findP (Lc l[i].table.toNat) l[i].key).getD []).length≤K+i:=by
     cases hf:findP (Lc l[i].table.toNat) l[i].key with
     | none=>simp
     | some c =>
      obtain⟨p,hp,_,rfl⟩:=findP_some hf
      exact h.ch _ ht p hp
    show (instV _ _).1.length≤_
    omega
   ·have:=h.ch _ ht p hp
    omega
  ·have:=h.ch j hj p hp
   omega
theorem InS.done {T T':Sto} {s:Int} {l:List Wr} {K:Nat} {Lc:Tb} (h:InS T s l K l.length T' Lc):goI (tabS T) (tabS T) s l=(Lc,0):=by
 rw [h.go,List.drop_length]
 rfl
end Go.Proofs.YtlpfhgdnmjkngaaGreat
