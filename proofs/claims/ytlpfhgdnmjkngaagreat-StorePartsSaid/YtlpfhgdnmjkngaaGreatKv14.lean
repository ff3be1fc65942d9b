/-
  TEXTS OF ONE PROOF, merged: StL, StO, StQ, StP, StN, StG.
-/
import Derived.Test.YtlpfhgdnmjkngaaGreatKv13
namespace Go.Proofs.YtlpfhgdnmjkngaaGreat
open Go.RowKit Go.Shelf
set_option maxRecDepth 100000
set_option maxHeartbeats 32000000
def znk (w:World) (l:List Pr) (k:List UInt8) (x:Ver) (e:Ending) (w':World):Prop :=
 ∃ u m,e=.returned (.tuple #[u,.int .i64 ((zcp l k x).2:Nat)])∧RdN (fun k=>w.heap.size≤k∧k<w'.heap.size) w' u m∧Below w.heap.size w w'∧((zcp l k x).2=0→okN m∧zaa m=(zcp l k x).1)
theorem zls(l:List Ver)(x:Ver):(zcm l x).1.length≤l.length+1:=by
 rcases zfj l x with⟨er,_,e⟩|⟨e,_⟩
 ·rw [e];simp
 ·rw [e];simp
theorem zq8 {l:List Ver} {x z:Ver} (h:z∈(zcm l x).1):z∈l∨z=x:=by
 rcases zfj l x with⟨er,_,e⟩|⟨e,_⟩
 ·rw [e] at h;exact .inl h
 ·rw [e] at h
  rcases List.mem_append.1 h with h | h
  ·exact .inl h
  ·exact .inr (List.mem_singleton.1 h)
theorem zht {l:List Pr}(h:Srt l)(k:List UInt8)(c:List Ver):(putP l k c).length≤l.length+1:=by
 rw [zqo h];split<;>omega
theorem zo6 (w : World) {S S2 S3 : Nat → Prop} {v : Value} {n : Nd} {A : Option Addr} {kn C : Nat} {k : List UInt8} {x : Ver} {Ax : Option Addr} {nx Cx : Nat} (hr : RdN S w v n) (hok : okN n) (hl : (zaa n).length ≤ 60) (hch : ∀ p ∈ zaa n,p.chain.length ≤ 900)
  (hk : RdS S2 w (.slice A kn C) k) (hkl : k.length ≤ 16) (hx : RdS S3 w (.slice Ax nx Cx) x.value) (hm : mayV x) :
  Calls Tryz.prog 48 #[v,.slice A kn C,.agg #[.int .i64 x.stamp,.bool x.gone,.slice Ax nx Cx]] w (znk w (zaa n) k x) := by
 have hr0 := hr
 obtain ⟨hgood,hsrt⟩ := (zco _).1 hok.2
 have hps : ∀ p ∈ zaa n,zbq p.chain := fun p hp => zlk (hgood p hp).1 (by have := hch p hp; omega)
 have hf : fitN n := zix hok ⟨by omega,hps⟩
 have hpr : prN n = zaa n := by unfold prN; rw [if_pos hok]
 obtain ⟨l,hle⟩ : ∃ l,l = zaa n := ⟨_,rfl⟩
 obtain rfl := hx.len.1
 obtain rfl := hk.len.1
 obtain ⟨a1,c1,a2,c2,a3,c3,rfl,_,_,_⟩ := hr
 obtain ⟨w1,hw1⟩ : ∃ w1,w1 = w.alloc (.cells #[.slice a1 n.keys.length c1,.slice a2 n.chains.length c2,.slice a3 n.kids.length c3] 26) := ⟨_,rfl⟩
 obtain ⟨w2,hw2⟩ : ∃ w2,w2 = w1.alloc (.cells #[.int .i64 x.stamp,.bool x.gone,.slice Ax x.value.length Cx] 87) := ⟨_,rfl⟩
 obtain ⟨W,hW⟩ : ∃ W,W = w2.alloc (.cells #[.slice none 0 0,.slice none 0 0,.slice none 0 0] 26) := ⟨_,rfl⟩
 have hs1 : w1.heap.size = w.heap.size + 1 := by rw [hw1]; simp
 have hs2 : w2.heap.size = w.heap.size + 2 := by rw [hw2]; simp [hs1]
 have hsW : W.heap.size = w.heap.size + 3 := by rw [hW]; simp [hs2]
 have k2 : Below w2.heap.size w2 W := by rw [hW]; exact (Below.refl _ _).alloc (Nat.le_refl _) _
 have k1 : Below w1.heap.size w1 W := (show Below w1.heap.size w1 w2 by rw [hw2]; exact (Below.refl _ _).alloc (Nat.le_refl _) _).trans (k2.mono (by omega))
 have q : Below w.heap.size w W := (show Below w.heap.size w w1 by rw [hw1]; exact (Below.refl _ _).alloc (Nat.le_refl _) _).trans (k1.mono (by omega))
 have bn : TriV W w.heap.size 26 (.slice a1 n.keys.length c1) (.slice a2 n.chains.length c2) (.slice a3 n.kids.length c3) := (show TriV w1 w.heap.size 26 (.slice a1 n.keys.length c1) (.slice a2 n.chains.length c2) (.slice a3 n.kids.length c3) by rw [hw1]; exact TriV.new _ _ _ _ _).below k1 (by omega)
 have bv : TriV W (w.heap.size + 1) 87 (.int .i64 x.stamp) (.bool x.gone) (.slice Ax x.value.length Cx) := (show TriV w2 (w.heap.size + 1) 87 (.int .i64 x.stamp) (.bool x.gone) (.slice Ax x.value.length Cx) by
  have h := TriV.new w1 87 (.int .i64 x.stamp) (.bool x.gone) (.slice Ax x.value.length Cx)
  rw [hs1] at h
  rw [hw2]; exact h).below k2 (by omega)
 have bz : TriV W (w.heap.size + 2) 26 (.slice none 0 0) (.slice none 0 0) (.slice none 0 0) := by
  have h := TriV.new w2 26 (.slice none 0 0) (.slice none 0 0) (.slice none 0 0)
  rw [hs2] at h
  rw [hW]; exact h
 have hWW : ((w.alloc (.cells #[.slice a1 n.keys.length c1,.slice a2 n.chains.length c2,.slice a3 n.kids.length c3] 26)).alloc (.cells #[.int .i64 x.stamp,.bool x.gone,.slice Ax x.value.length Cx] 87)).alloc (.cells #[.slice none 0 0,.slice none 0 0,.slice none 0 0] 26) = W := by rw [hW,hw2,hw1]
 clear hs1 hs2 k1 k2 hw1 hw2 hW w1 w2
 have hfd := zfq W (hr0.below q) hf (hk.below q)
 rw [hpr,← hle] at hfd
 rw [← hle] at hl hch hps hsrt hgood ⊢
 obtain ⟨lo,hlo⟩ : ∃ lo,lo = (zaw l k).getD [] := ⟨_,rfl⟩
 have hlos : lo.length ≤ 900 ∧ zbq lo := by
  rw [hlo]
  cases h : zaw l k with
  | none => exact ⟨by simp,by simp,fun x hx => by simp at hx⟩
  | some c =>
   obtain ⟨p,hp,_,rfl⟩ := zdf h
   exact ⟨hch p hp,hps p hp⟩
 have hnew : zbq (zcm lo x).1 := ⟨by have := zls lo x; omega,fun z hz => by
  rcases zq8 hz with h | rfl
  ·exact hlos.2.2 z h
  ·have := hm.2.2.1; omega⟩
 unfold zkj at hfd
 rw [← hlo] at hfd
 generalize (zaw l k).isSome = fs at hfd
 obtain ⟨R,hR⟩ : ∃ R,R = zcm lo x := ⟨_,rfl⟩
 have hi1 : zcp l k x = if R.2 ≠ 0 then ([],R.2) else if 60 < (putP l k R.1).length then ([],40) else (putP l k R.1,0) := by
  unfold zcp
  rw [hR,hlo]
 have hRc : R.2 ≠ 0 ∨ (R.2 = 0 ∧ okV R.1 ∧ R.1 ≠ []) := by
  rcases zfj lo x with ⟨er,h1,h2⟩ | ⟨h1,h2,h3,h4⟩
  ·left; rw [hR,h2]; exact h1
  ·right
   rw [hR,h1]
   exact ⟨rfl,okV_snoc h2 h3 h4,by simp⟩
 rw [← hR] at hnew
 have hR2 : R.2 ≤ 50 := by
  rw [hR]
  unfold zcm
  split
  ·split
   ·split <;> simp
   ·simp
  ·simp
 replace hlo := Lib.hid hlo
 replace hle := Lib.hid hle
 replace hR := Lib.hid hR
 replace hlos := Lib.hid hlos
 replace hpr := Lib.hid hpr
 replace hl := Lib.hid hl
 have hgo : ∀ (Q : Nat × List Pr) ,True := fun _ => trivial
 clear hgo
 have d0 := bn.cell0
 have d1 := bn.cell1
 have d2 := bn.cell2
 rcases hRc with hRe | ⟨hR0,hRk,hRn⟩
 ·have hi2 : zcp l k x = ([],R.2) := by rw [hi1,if_pos hRe]
  rw [show znk w l k x = fun e w' => ∃ u m,e = .returned (.tuple #[u,.int .i64 (R.2 : Nat)]) ∧ RdN (fun k => w.heap.size ≤ k ∧ k < w'.heap.size) w' u m ∧ Below w.heap.size w w' ∧ (R.2 = 0 → False) from by
   funext e w'
   unfold znk
   rw [hi2]
   refine propext ⟨fun ⟨u,m,h1,h2,h3,_⟩ => ⟨u,m,h1,h2,h3,hRe⟩,fun ⟨u,m,h1,h2,h3,_⟩ => ⟨u,m,h1,h2,h3,fun h => absurd h hRe⟩⟩]
  have dR : ((R.2 : Int) != 0) = true := by rw [bne_iff_ne]; omega
  replace hi1 := Lib.hid hi1
  replace hi2 := Lib.hid hi2
  replace hRe := Lib.hid hRe
  go_enter Tryz.func48,Tryz.ntmps48
  go_upto_region 1 with (fail)
  (try rw [hWW])
  clear hWW
  go_wp2_with fail
  refine hfd.mono ?_
  rintro e W2 ⟨fa,fc,rfl,hfr,hb2⟩
  have bv2 := bv.below hb2 bv.lt
  have bz2 := bz.below hb2 bz.lt
  have q2 := q.trans (hb2.mono q.size)
  have x0 := bv2.cell0
  have x1 := bv2.cell1
  have x2 := bv2.cell2
  clear d0 d1 d2
  have hin := zej W2 (x := x) (hfr.weak fun _ _ => trivial) hlos.out.2 (((hx.below q).below hb2).weak fun _ _ => trivial) (by have := hm.2.2.1; omega) (zj4 hm)
  unfold zds at hin
  rw [← hR.out] at hin
  go_wp2_with fail
  refine hin.mono ?_
  rintro e W3 ⟨ia,ic,rfl,hir,hb3⟩
  have bz3 := bz2.below hb3 bz2.lt
  have q3 := q2.trans (hb3.mono q2.size)
  have hs3 := q3.size
  clear x0 x1 x2
  go_wp2_with (first | (refine za4 (by kernel_rfl) rfl rfl rfl rfl rfl rfl rfl rfl bz3 (fun W9 hg9 bz9 => ?_)) | fail)
  have g0 := bz9.cell0
  have g1 := bz9.cell1
  have g2 := bz9.cell2
  obtain ⟨fs,hu,_,_⟩ := zce.hu
  refine bodyPost_ret (v := .tuple #[.agg #[.slice none 0 0,.slice none 0 0,.slice none 0 0],.int .i64 (R.2 : Nat)]) (by simp [results,Tryz.results48,go_sem,loadVar,isAgg,run_underlying hu,zab zce.hs,loadCellsFrom,Addr.add,g0,g1,g2]) rfl ?_
  exact ⟨_,.mk [] [] [],rfl,zhs _ _,q3.trans ⟨hg9.os,hg9.tape,hg9.output,hg9.size,fun k hk => hg9.block k (by omega) (fun e => by injection e with e; omega)⟩,hRe.out⟩
 ·rcases Nat.lt_or_ge 60 (putP l k R.1).length with hc | hc
  ·have hi2 : zcp l k x = ([],40) := by rw [hi1,if_neg (by rw [hR0]; simp),if_pos hc]
   rw [show znk w l k x = fun e w' => ∃ u m,e = .returned (.tuple #[u,.int .i64 (40 : Int)]) ∧ RdN (fun k => w.heap.size ≤ k ∧ k < w'.heap.size) w' u m ∧ Below w.heap.size w w' ∧ (True) from by
    funext e w'
    unfold znk
    rw [hi2]
    refine propext ⟨fun ⟨u,m,h1,h2,h3,_⟩ => ⟨u,m,h1,h2,h3,trivial⟩,fun ⟨u,m,h1,h2,h3,_⟩ => ⟨u,m,h1,h2,h3,fun h => by simp at h⟩⟩]
   have d9 : decide ((60 : Int) < ((putP l k R.1).length : Int)) = true := by simp; omega
   replace hi1 := Lib.hid hi1
   replace hi2 := Lib.hid hi2
   replace hc := Lib.hid hc
   replace hR0 := Lib.hid hR0
   go_enter Tryz.func48,Tryz.ntmps48
   go_upto_region 1 with (fail)
   (try rw [hWW])
   clear hWW
   go_wp2_with fail
   refine hfd.mono ?_
   rintro e W2 ⟨fa,fc,rfl,hfr,hb2⟩
   have bv2 := bv.below hb2 bv.lt
   have bz2 := bz.below hb2 bz.lt
   have bn2 := bn.below hb2 bn.lt
   have q2 := q.trans (hb2.mono q.size)
   have x0 := bv2.cell0
   have x1 := bv2.cell1
   have x2 := bv2.cell2
   clear d0 d1 d2
   have hin := zej W2 (x := x) (hfr.weak fun _ _ => trivial) hlos.out.2 (((hx.below q).below hb2).weak fun _ _ => trivial) (by have := hm.2.2.1; omega) (zj4 hm)
   unfold zds at hin
   rw [← hR.out,hR0.out] at hin
   go_wp2_with fail
   refine hin.mono ?_
   rintro e W3 ⟨ia,ic,rfl,hir,hb3⟩
   have bz3 := bz2.below hb3 bz2.lt
   have bn3 := bn2.below hb3 bn2.lt
   have q3 := q2.trans (hb3.mono q2.size)
   have hs3 := q3.size
   clear x0 x1 x2
   have x0 := bn3.cell0
   have x1 := bn3.cell1
   have x2 := bn3.cell2
   have hpt := zeh W3 (hr0.below q3) hf (hk.below q3) (by omega) hir hnew
   go_wp2_with fail
   refine hpt.mono ?_
   rintro e W4 ⟨v4,m,er,rfl,hp4,hr4,hb4⟩
   obtain ⟨rfl,hmk,hmp⟩ : er = 0 ∧ okN m ∧ zaa m = putP l k R.1 := by
    unfold zf7 at hp4
    rw [if_pos ⟨hok,hkl,hRk,hRn⟩,← hle.out] at hp4
    exact hp4
   clear hp4 hpt
   have hmf : fitN m := zix hmk ⟨by rw [hmp]; have := zht hsrt k R.1; have := hl.out; omega,by rw [hmp]; exact znc hsrt hps hnew⟩
   have hmq : prN m = putP l k R.1 := by unfold prN; rw [if_pos hmk,hmp]
   replace hmp := Lib.hid hmp
   obtain ⟨f0,h0,f1,h1,f2,h2,rfl,_,_,_⟩ := id hr4
   have bz4 := bz3.below hb4 bz3.lt
   have bn4 := bn3.below hb4 bn3.lt
   have hs4 := hb4.size
   clear x0 x1 x2
   go_wp2_with (first | (refine za4 (by kernel_rfl) rfl rfl rfl rfl rfl rfl rfl rfl bn4 (fun W5 hg5 bn5 => ?_); have x0 := bn5.cell0; have x1 := bn5.cell1; have x2 := bn5.cell2) | fail)
   have hne : ∀ j,j < W4.heap.size → j ≠ w.heap.size → W5.heap[j]? = W4.heap[j]? := fun j h1 h2 => hg5.block j h1 (fun e => h2 (by injection e))
   have hs5 := hg5.size
   have hm5 : RdN (fun k => w.heap.size + 3 ≤ k ∧ k < W5.heap.size) W5 (.agg #[.slice f0 m.keys.length h0,.slice f1 m.chains.length h1,.slice f2 m.kids.length h2]) m := (hr4.keep fun j hj => hne j hj.2 (by have := bz3.lt; omega)).weak fun j hj => ⟨by have := bz3.lt; omega,by omega⟩
   have bz5 : TriV W5 (w.heap.size + 2) 26 _ _ _ := (hne _ bz4.lt (by omega)).trans bz4
   have q5 : Below w.heap.size w W5 := (q3.trans (hb4.mono hs3)).trans ⟨hg5.os,hg5.tape,hg5.output,hs5,fun j hj => hne j (by omega) (by omega)⟩
   have hmn := zd3 W5 hm5 hmf
   rw [hmq] at hmn
   replace hmq := Lib.hid hmq
   refine hmn.mono ?_
   rintro e W6 ⟨rfl,hb6⟩
   have bz6 := bz5.below hb6 bz5.lt
   have bn6 := bn5.below hb6 bn5.lt
   have hm6 := hm5.below hb6
   have q6 := q5.trans (hb6.mono q5.size)
   have hs6 := hb6.size
   clear x0 x1 x2
   have x0 := bn6.cell0
   have x1 := bn6.cell1
   have x2 := bn6.cell2
   go_wp2_with (first | (refine za4 (by kernel_rfl) rfl rfl rfl rfl rfl rfl rfl rfl bz6 (fun W9 hg9 bz9 => ?_)) | fail)
   have hq9 : Below w.heap.size w W9 := q6.trans ⟨hg9.os,hg9.tape,hg9.output,hg9.size,fun k hk => hg9.block k (by have := q6.size; omega) (fun e => by injection e with e; omega)⟩
   have g0 := bz9.cell0
   have g1 := bz9.cell1
   have g2 := bz9.cell2
   obtain ⟨fs,hu,_,_⟩ := zce.hu
   refine bodyPost_ret (v := .tuple #[.agg #[.slice none 0 0,.slice none 0 0,.slice none 0 0],.int .i64 40]) (by simp [results,Tryz.results48,go_sem,loadVar,isAgg,run_underlying hu,zab zce.hs,loadCellsFrom,Addr.add,g0,g1,g2]) rfl ?_
   exact ⟨_,.mk [] [] [],rfl,zhs _ _,hq9,trivial⟩
  ·have hi2 : zcp l k x = (putP l k R.1,0) := by rw [hi1,if_neg (by rw [hR0]; simp),if_neg (Nat.not_lt.2 hc)]
   rw [show znk w l k x = fun e w' => ∃ u m,e = .returned (.tuple #[u,.int .i64 (0 : Int)]) ∧ RdN (fun k => w.heap.size ≤ k ∧ k < w'.heap.size) w' u m ∧ Below w.heap.size w w' ∧ (okN m ∧ zaa m = putP l k R.1) from by
    funext e w'
    unfold znk
    rw [hi2]
    refine propext ⟨fun ⟨u,m,h1,h2,h3,h4⟩ => ⟨u,m,h1,h2,h3,h4 rfl⟩,fun ⟨u,m,h1,h2,h3,h4⟩ => ⟨u,m,h1,h2,h3,fun _ => h4⟩⟩]
   have d9 : decide ((60 : Int) < ((putP l k R.1).length : Int)) = false := by simp; omega
   replace hi1 := Lib.hid hi1
   replace hi2 := Lib.hid hi2
   replace hc := Lib.hid hc
   replace hR0 := Lib.hid hR0
   go_enter Tryz.func48,Tryz.ntmps48
   go_upto_region 1 with (fail)
   (try rw [hWW])
   clear hWW
   go_wp2_with fail
   refine hfd.mono ?_
   rintro e W2 ⟨fa,fc,rfl,hfr,hb2⟩
   have bv2 := bv.below hb2 bv.lt
   have bz2 := bz.below hb2 bz.lt
   have bn2 := bn.below hb2 bn.lt
   have q2 := q.trans (hb2.mono q.size)
   have x0 := bv2.cell0
   have x1 := bv2.cell1
   have x2 := bv2.cell2
   clear d0 d1 d2
   have hin := zej W2 (x := x) (hfr.weak fun _ _ => trivial) hlos.out.2 (((hx.below q).below hb2).weak fun _ _ => trivial) (by have := hm.2.2.1; omega) (zj4 hm)
   unfold zds at hin
   rw [← hR.out,hR0.out] at hin
   go_wp2_with fail
   refine hin.mono ?_
   rintro e W3 ⟨ia,ic,rfl,hir,hb3⟩
   have bz3 := bz2.below hb3 bz2.lt
   have bn3 := bn2.below hb3 bn2.lt
   have q3 := q2.trans (hb3.mono q2.size)
   have hs3 := q3.size
   clear x0 x1 x2
   have x0 := bn3.cell0
   have x1 := bn3.cell1
   have x2 := bn3.cell2
   have hpt := zeh W3 (hr0.below q3) hf (hk.below q3) (by omega) hir hnew
   go_wp2_with fail
   refine hpt.mono ?_
   rintro e W4 ⟨v4,m,er,rfl,hp4,hr4,hb4⟩
   obtain ⟨rfl,hmk,hmp⟩ : er = 0 ∧ okN m ∧ zaa m = putP l k R.1 := by
    unfold zf7 at hp4
    rw [if_pos ⟨hok,hkl,hRk,hRn⟩,← hle.out] at hp4
    exact hp4
   clear hp4 hpt
   have hmf : fitN m := zix hmk ⟨by rw [hmp]; have := zht hsrt k R.1; have := hl.out; omega,by rw [hmp]; exact znc hsrt hps hnew⟩
   have hmq : prN m = putP l k R.1 := by unfold prN; rw [if_pos hmk,hmp]
   replace hmp := Lib.hid hmp
   obtain ⟨f0,g0,f1,g1,f2,g2,rfl,_,_,_⟩ := id hr4
   have bz4 := bz3.below hb4 bz3.lt
   have bn4 := bn3.below hb4 bn3.lt
   have hs4 := hb4.size
   clear x0 x1 x2
   go_wp2_with (first | (refine za4 (by kernel_rfl) rfl rfl rfl rfl rfl rfl rfl rfl bn4 (fun W5 hg5 bn5 => ?_); have x0 := bn5.cell0; have x1 := bn5.cell1; have x2 := bn5.cell2) | fail)
   have hne : ∀ j,j < W4.heap.size → j ≠ w.heap.size → W5.heap[j]? = W4.heap[j]? := fun j h1 h2 => hg5.block j h1 (fun e => h2 (by injection e))
   have hs5 := hg5.size
   have hm5 : RdN (fun k => w.heap.size + 3 ≤ k ∧ k < W5.heap.size) W5 (.agg #[.slice f0 m.keys.length g0,.slice f1 m.chains.length g1,.slice f2 m.kids.length g2]) m := (hr4.keep fun j hj => hne j hj.2 (by have := bz3.lt; omega)).weak fun j hj => ⟨by have := bz3.lt; omega,by omega⟩
   have bz5 : TriV W5 (w.heap.size + 2) 26 _ _ _ := (hne _ bz4.lt (by omega)).trans bz4
   have q5 : Below w.heap.size w W5 := (q3.trans (hb4.mono hs3)).trans ⟨hg5.os,hg5.tape,hg5.output,hs5,fun j hj => hne j (by omega) (by omega)⟩
   have hmn := zd3 W5 hm5 hmf
   rw [hmq] at hmn
   replace hmq := Lib.hid hmq
   refine hmn.mono ?_
   rintro e W6 ⟨rfl,hb6⟩
   have bz6 := bz5.below hb6 bz5.lt
   have bn6 := bn5.below hb6 bn5.lt
   have hm6 := hm5.below hb6
   have q6 := q5.trans (hb6.mono q5.size)
   have hs6 := hb6.size
   clear x0 x1 x2
   have x0 := bn6.cell0
   have x1 := bn6.cell1
   have x2 := bn6.cell2
   go_wp2_with (first | (refine za4 (by kernel_rfl) rfl rfl rfl rfl rfl rfl rfl rfl bz6 (fun W9 hg9 bz9 => ?_)) | fail)
   have hq9 : Below w.heap.size w W9 := q6.trans ⟨hg9.os,hg9.tape,hg9.output,hg9.size,fun k hk => hg9.block k (by have := q6.size; omega) (fun e => by injection e with e; omega)⟩
   have y0 := bz9.cell0
   have y1 := bz9.cell1
   have y2 := bz9.cell2
   obtain ⟨fs,hu,_,_⟩ := zce.hu
   refine bodyPost_ret (v := .tuple #[.agg #[.slice f0 m.keys.length g0,.slice f1 m.chains.length g1,.slice f2 m.kids.length g2],.int .i64 0]) (by simp [results,Tryz.results48,go_sem,loadVar,isAgg,run_underlying hu,zab zce.hs,loadCellsFrom,Addr.add,y0,y1,y2]) rfl ?_
   exact ⟨_,m,rfl,(hm6.keep fun k hk => hg9.block k (by omega) (fun e => by injection e with e; omega)).weak fun k hk => ⟨by omega,by have := hg9.size; omega⟩,hq9,hmk,hmp.out⟩
def FndW(p:Wr→Bool)(l:List Wr)(v:Int):Prop:=(v=-1∧∀ y∈l,p y=false)∨∃(j:Nat)(h:j<l.length),v=(j:Int)∧p l[j]=true∧∀ y∈l.take j,p y=false
def TellsW (F:FuncId) (bs caps:Array Value) (S:Nat→Prop) (w:World) (p:Wr→Bool):Prop :=
 ∀ (W:World) (v:Value) (x:Wr),Below w.heap.size w W→RdWr S W v x→Calls Tryz.prog F (bs++#[v]++caps) W fun e W'=>e=.returned (.bool (p x))∧Below W.heap.size W W'
theorem zox (w : World) {S : Nat → Prop} {a : Option Addr} {n c : Nat} {l : List Wr} (hl : RdL Elt.wr S w (.slice a n c) l) (F : FuncId) (bs caps : Array Value) (hE : Enters Tryz.prog F) (p : Wr → Bool) (hF : TellsW F bs caps S w p) :
  Calls Tryz.prog 65 #[.slice a n c,.func (.func F) bs caps] w fun e w' => ∃ i : Int,e = .returned (.int .i64 i) ∧ FndW p l i ∧ Below w.heap.size w w' := by
 obtain ⟨rfl,hnc,hcm⟩ := hl.len
 have hlm : l.length ≤ 9223372036854775807 := by unfold maxLen at hcm; omega
 have hEE := hE
 unfold Enters at hEE
 have q := Below.refl w.heap.size w
 go_enter Tryz.func65,Tryz.ntmps65
 go_upto_region 2 with (fail)
 go_loopw [5,8] (fun _ iv wr => ∃ (k : Nat),iv = .int .i64 k ∧ k ≤ l.length ∧ (∀ x ∈ l.take k,p x = false) ∧ Below w.heap.size w wr)
  (fun _ i _ => l.length - (intOf i).toNat)
 case atStart => exact ⟨0,rfl,Nat.zero_le _,by simp,q⟩
 case round =>
  clear q
  obtain ⟨k,rfl,hkl,hall,q⟩ := hrel
  replace hall := Lib.hid hall
  rcases Nat.lt_or_ge k l.length with hlt | hge
  ·obtain ⟨b,off,A,C,A2,C2,rfl,hb,c0,c1,c2,c3,hk1,hk2,hw64⟩ := (hl.below q).wr k hlt
   have hw : RdWr S wr (.agg #[.int .i64 l[k].table,.slice A l[k].key.length C,.bool l[k].gone,.slice A2 l[k].val.length C2]) l[k] := ⟨A,C,A2,C2,rfl,hk1,hk2,hw64⟩
   go_upto_region 4 with (fail)
   go_wp2_with fail
   refine (hF wr _ _ q hw).mono ?_
   rintro e w1 ⟨rfl,hb1⟩
   replace q := q.trans (hb1.mono q.size)
   clear c0 c1 c2 c3 hk1 hk2 hw
   cases hm : p l[k] with
   | false =>
    have hall2 := Lib.hid (show ∀ x ∈ l.take (k + 1),p x = false from fun x hx => by
     rw [List.take_succ_eq_append_getElem hlt] at hx
     rcases List.mem_append.1 hx with h | h
     ·exact hall.out x h
     ·simp at h; rw [h]; exact hm)
    clear hall hm
    go_wp2_with fail
    go_roundw
    case rel => exact ⟨k + 1,by go_num,by omega,hall2.out,q⟩
    case measure => simp [intOf]; omega
   | true =>
    replace hm := Lib.hid hm
    go_wp2_with fail
    go_ret
    exact ⟨_,rfl,.inr ⟨k,hlt,rfl,hm.out,hall.out⟩,q⟩
  ·obtain rfl : k = l.length := by omega
   have hno := Lib.hid (show ∀ x ∈ l,p x = false from fun x hx => hall.out x (by rw [List.take_length]; exact hx))
   clear hall
   go_wp2_with fail
   go_ret
   exact ⟨_,rfl,.inl ⟨rfl,hno.out⟩,q⟩
theorem fndW_any {p : Wr → Bool} {l : List Wr} {i : Int} (h : FndW p l i) : decide (0 ≤ i) = l.any p := by
 rcases h with ⟨h1,h2⟩ | ⟨j,h1,h2,h3,_⟩
 ·rw [decide_eq_false (by omega),List.any_eq_false.2 fun x hx => by simp [h2 x hx]]
 ·rw [decide_eq_true (by omega),List.any_eq_true.2 ⟨_,List.getElem_mem h1,h3⟩]
theorem zjb (w:World) {S:Nat→Prop} {a:Option Addr} {n c:Nat} {l:List Wr} (hl:RdL Elt.wr S w (.slice a n c) l) (F:FuncId) (bs caps:Array Value) (hE:Enters Tryz.prog F) (p:Wr→Bool) (hF:TellsW F bs caps S w p) :
  Calls Tryz.prog 46 #[.slice a n c,.func (.func F) bs caps] w fun e w'=>e=.returned (.bool (l.any p))∧Below w.heap.size w w':=by
 go_enter Tryz.func46,Tryz.ntmps46
 go_wp2_with fail
 refine (zox w hl F bs caps hE p hF).mono ?_
 rintro e w1⟨i,rfl,hi,hb⟩
 have hd:=Lib.hid (fndW_any hi)
 clear hi
 go_wp2_with fail
 go_ret
 exact⟨by first | (rw [hd.out];done) | (rw [← hd.out];rfl),hb⟩
def badW (s:Int) (x:Wr):Bool:=!(decide (0≤x.table)&&decide (x.table<4)&&(decide (x.key.length≤16)&&decide (okV [verW x s])))
theorem one_wr {S : Nat → Prop} {W : World} {x : Wr} {A2 : Option Addr} {C2 : Nat} {s : Int} {g : Nat} (hv : RdS S W (.slice A2 x.val.length C2) x.val) (hi : I64' s) (hb : BoxN W g 87 [.int .i64 s,.bool x.gone,.slice A2 x.val.length C2]) : RdL Elt.ver (fun k => S k ∨ k = g) W (.slice (some ⟨g,0,none⟩) 1 1) [verW x s] :=
 ⟨some ⟨g,0,none⟩,1,rfl,Nat.le_refl _,by unfold maxLen; omega,.inr ⟨g,0,rfl,.inr rfl,fun r hr => by
  obtain rfl : r = 0 := by simp at hr; omega
  exact ⟨_,⟨_,rfl,hv.weak fun _ h => .inl h,hi⟩,fun j u hj => by simpa using hb.cell hj⟩⟩⟩
theorem zot (w : World) {S : Nat → Prop} {v : Value} {x : Wr} {sb : Nat} {s : Int} (hx : RdWr S w v x) (hs : w.cell? ⟨sb,0,none⟩ = some (.int .i64 s)) (hi : I64' s) : Calls Tryz.prog 42 #[v,.pointer (some ⟨sb,0,none⟩)] w fun e w' => e = .returned (.bool (badW s x)) ∧ Below w.heap.size w w' := by
 obtain ⟨a,c,a2,c2,rfl,hk,hv,h64⟩ := hx
 have hsl := zaj hs
 obtain ⟨W,hW⟩ : ∃ W,W = w.alloc (.cells #[.int .i64 x.table,.slice a x.key.length c,.bool x.gone,.slice a2 x.val.length c2] 51) := ⟨_,rfl⟩
 have q : Below w.heap.size w W := by rw [hW]; exact (Below.refl _ _).alloc (Nat.le_refl _) _
 have bx : BoxN W w.heap.size 51 [.int .i64 x.table,.slice a x.key.length c,.bool x.gone,.slice a2 x.val.length c2] := by rw [hW]; exact BoxN.new _ _ _
 have hsW : W.cell? ⟨sb,0,none⟩ = some (.int .i64 s) := (q.cell (p := ⟨sb,0,none⟩) hsl).trans hs
 have hvW := hv.below q
 have c0 := bx.cell (i := 0) rfl
 have c1 := bx.cell (i := 1) rfl
 have c3 := bx.cell (i := 2) rfl
 have c4 := bx.cell (i := 3) rfl
 have hkn := zlq W x.table
 go_enter Tryz.func42,Tryz.ntmps42
 go_upto_region 1 with (fail)
 rw [← hW]
 clear hW
 cases hkb : (decide (0 ≤ x.table) && decide (x.table < 4)) with
 | false =>
  rw [hkb] at hkn
  have H := Lib.hid (show badW s x = true by unfold badW; rw [hkb]; rfl)
  go_wp2_with fail
  refine hkn.mono ?_
  rintro e W' ⟨rfl,hw'⟩
  obtain rfl : W = W' := hw'.symm
  go_wp2_with fail
  go_ret
  exact ⟨by first | (rw [H.out]; done) | (rw [H.out]; rfl),q⟩
 | true =>
  rw [hkb] at hkn
  go_wp2_with fail
  refine hkn.mono ?_
  rintro e W' ⟨rfl,hw'⟩
  obtain rfl : W = W' := hw'.symm
  rcases Nat.lt_or_ge 16 x.key.length with h16 | h16
  ·have d1 : decide ((16 : Int) < (x.key.length : Int)) = true := by simp; omega
   have H := Lib.hid (show badW s x = true by unfold badW; rw [hkb,decide_eq_false (Nat.not_le.2 h16)]; rfl)
   clear h16
   go_wp2_with fail
   go_ret
   exact ⟨by first | (rw [H.out]; done) | (rw [H.out]; rfl),q⟩
  ·have d1 : decide ((16 : Int) < (x.key.length : Int)) = false := by simp; omega
   have H := Lib.hid (show badW s x = !decide (okV [verW x s]) by unfold badW; rw [hkb,decide_eq_true h16]; rfl)
   clear h16
   have hve := zhh W x a a2 c c2 s
   go_wp2_with fail
   refine hve.mono ?_
   rintro e W2 ⟨rfl,hb2⟩
   obtain ⟨W3,hW3⟩ : ∃ W3,W3 = W2.alloc (.cells #[.int .i64 s,.bool x.gone,.slice a2 x.val.length c2] 87) := ⟨_,rfl⟩
   have hb3 : Below W2.heap.size W2 W3 := by rw [hW3]; exact (Below.refl _ _).alloc (Nat.le_refl _) _
   have b3 : BoxN W3 W2.heap.size 87 [.int .i64 s,.bool x.gone,.slice a2 x.val.length c2] := by rw [hW3]; exact BoxN.new _ _ _
   have hch := zcy W3 (one_wr ((hvW.below hb2).below hb3) hi b3)
   have q3 := q.trans ((hb2.mono q.size).trans (hb3.mono (by have := q.size; have := hb2.size; omega)))
   go_wp2_with fail
   rw [← hW3]
   refine hch.mono ?_
   rintro e W4 ⟨rfl,hb4⟩
   go_wp2_with fail
   go_ret
   exact ⟨by first | (rw [H.out]; done) | (rw [H.out]; rfl),q3.trans (hb4.mono q3.size)⟩
def zbs (T:Sto) (s:Int) (l:List Wr):Tb×Nat:=if okS T∧1≤s∧s<2147483648∧l.any (badW s)=false then goI (tabS T) (tabS T) s l else (tabS T,1)
theorem bad_no {s:Int} {x:Wr} (h:badW s x=false):0≤x.table∧x.table<4∧x.key.length≤16∧mayV (verW x s):=by
 unfold badW at h
 simp only [Bool.not_eq_false',Bool.and_eq_true,decide_eq_true_eq] at h
 obtain⟨⟨h1,h2⟩,h3,h4⟩:=h
 exact⟨h1,h2,h3,(h4 0 (by simp)).1⟩
structure InS (T:Sto) (s:Int) (l:List Wr) (K i:Nat) (T':Sto) (Lc:Tb):Prop where
 go:goI (tabS T) (tabS T) s l=goI (tabS T) Lc s (l.drop i)
 ok:∀ j,j<4→okN (T' j)∧zaa (T' j)=Lc j
 len:∀ j,j<4→(Lc j).length≤60
 ch:∀ j,j<4→∀ p∈Lc j,p.chain.length≤K+i
theorem InS.start {T:Sto} {s:Int} {l:List Wr} {K:Nat} (hk:okS T) (hc:∀ j,j<4→∀ p∈prN (T j),p.chain.length≤K):InS T s l K 0 T (tabS T) where
 go:=rfl
 ok j hj:=⟨(hk j hj).1,by unfold tabS prN;rw [if_pos (hk j hj).1]⟩
 len j hj:=(hk j hj).2
 ch:=hc
theorem InS.err {T T':Sto} {s:Int} {l:List Wr} {K i:Nat} {Lc:Tb} (h:InS T s l K i T' Lc) (hi:i<l.length) (he:(zcp (Lc l[i].table.toNat) l[i].key (verW l[i] s)).2≠0):goI (tabS T) (tabS T) s l=(tabS T,(zcp (Lc l[i].table.toNat) l[i].key (verW l[i] s)).2):=by
 rw [h.go,List.drop_eq_getElem_cons hi]
 unfold goI
 rw [if_pos he]
theorem putP_mem {l:List Pr}(h:Srt l) {k:List UInt8} {c:List Ver} {p:Pr}(hp:p∈putP l k c):p=⟨k,c⟩∨p∈l:=by
 rw [zdw h] at hp
 exact zgm hp
theorem InS.step {T T':Sto} {s:Int} {l:List Wr} {K i:Nat} {Lc:Tb} (h:InS T s l K i T' Lc) (hi:i<l.length) (hb:badW s l[i]=false) (he:(zcp (Lc l[i].table.toNat) l[i].key (verW l[i] s)).2=0) {m:Nd} (hm:okN m∧zaa m=(zcp (Lc l[i].table.toNat) l[i].key (verW l[i] s)).1) :
  InS T s l K (i+1) (fun j=>if j=l[i].table.toNat then m else T' j) (fun j=>if j=l[i].table.toNat then (zcp (Lc l[i].table.toNat) l[i].key (verW l[i] s)).1 else Lc j):=by
 obtain⟨b1,b2,_,_⟩:=bad_no hb
 have ht:l[i].table.toNat<4:=by omega
 have hsr:Srt (Lc l[i].table.toNat):=by
  rw [← (h.ok _ ht).2]
  exact zmz (h.ok _ ht).1
 have hst:(zcp (Lc l[i].table.toNat) l[i].key (verW l[i] s)).1=putP (Lc l[i].table.toNat) l[i].key (zcm ((zaw (Lc l[i].table.toNat) l[i].key).getD []) (verW l[i] s)).1∧(putP (Lc l[i].table.toNat) l[i].key (zcm ((zaw (Lc l[i].table.toNat) l[i].key).getD []) (verW l[i] s)).1).length≤60:=by
  revert he
  unfold zcp
  dsimp only
  split
  ·rename_i h1;intro h2;exact absurd h2 h1
  ·split
   ·intro h2;cases h2
   ·rename_i h2;exact fun _=>⟨rfl,by omega⟩
 refine⟨?_,fun j hj=>?_,fun j hj=>?_,fun j hj p hp=>?_⟩
 ·rw [h.go,List.drop_eq_getElem_cons hi]
  conv=>lhs;unfold goI
  rw [if_neg (by rw [he];simp)]
  have:setT Lc l[i].table (zcp (Lc l[i].table.toNat) l[i].key (verW l[i] s)).1=fun j=>if j=l[i].table.toNat then (zcp (Lc l[i].table.toNat) l[i].key (verW l[i] s)).1 else Lc j:=by
   funext j
   unfold setT
   by_cases e:j=l[i].table.toNat
   ·rw [if_pos e,if_pos (by omega)]
   ·rw [if_neg e,if_neg (by omega)]
  rw [this]
 ·split
  ·exact hm
  ·exact h.ok j hj
 ·split
  ·rw [hst.1];exact hst.2
  ·exact h.len j hj
 ·split at hp
  ·rw [hst.1] at hp
   rcases putP_mem hsr hp with rfl | hp
   ·have h1:=zls ((zaw (Lc l[i].table.toNat) l[i].key).getD []) (verW l[i] s)
    have h2:((zaw (Lc l[i].table.toNat) l[i].key).getD []).length≤K+i:=by
     cases hf:zaw (Lc l[i].table.toNat) l[i].key with
     | none=>simp
     | some c =>
      obtain⟨p,hp,_,rfl⟩:=zdf hf
      exact h.ch _ ht p hp
    show (zcm _ _).1.length≤_
    omega
   ·have:=h.ch _ ht p hp
    omega
  ·have:=h.ch j hj p hp
   omega
theorem InS.done {T T':Sto} {s:Int} {l:List Wr} {K:Nat} {Lc:Tb} (h:InS T s l K l.length T' Lc):goI (tabS T) (tabS T) s l=(Lc,0):=by
 rw [h.go,List.drop_length]
 rfl
def InQ(R:List Pr×Nat)(m:Nd)(er:Nat):Prop:=er=R.2∧(R.2=0→okN m∧zaa m=R.1)
def InT (T:Sto) (s:Int) (l:List Wr) (K:Nat) (T':Sto):Prop:=((zbs T s l).2≠0→T'=T)∧((zbs T s l).2=0→okS T∧∀ j,j<4→okN (T' j)∧zaa (T' j)=(zbs T s l).1 j∧(zaa (T' j)).length≤60∧∀ p∈zaa (T' j),p.chain.length≤K+l.length)
def zma (w:World) (T:Sto) (s:Int) (l:List Wr) (K:Nat) (e:Ending) (w':World):Prop:=∃ u T',e=.returned (.tuple #[u,.int .i64 ((zbs T s l).2:Nat)])∧RdSt (fun k=>w.heap.size≤k∧k<w'.heap.size) w' u T'∧Below w.heap.size w w'∧InT T s l K T'
theorem InT.err {T:Sto} {s:Int} {l:List Wr} {K:Nat}(h:(zbs T s l).2≠0):InT T s l K T:=⟨fun _=>rfl,fun h2=>absurd h2 h⟩
theorem zdv (w : World) {S S2 : Nat → Prop} {v : Value} {T : Sto} {s : Int} {aw : Option Addr} {nw cw : Nat} {l : List Wr} {K : Nat} (hr : RdSt S w v T) (hf : fitS T) (hi : I64' s) (hl : RdL Elt.wr S2 w (.slice aw nw cw) l)
  (hc : okS T → ∀ j,j < 4 → ∀ p ∈ prN (T j),p.chain.length ≤ K) (hK : K + l.length ≤ 900) : Calls Tryz.prog 24 #[v,.int .i64 s,.slice aw nw cw] w (zma w T s l K) := by
 have hr0 := hr
 obtain ⟨rfl,hlc,hlm⟩ := hl.len
 obtain ⟨a,m,c,rfl,hx⟩ := hr
 obtain ⟨w1,hw1⟩ : ∃ w1,w1 = w.alloc (.cells #[.slice (a 0) (m 0) (c 0),.slice (a 1) (m 1) (c 1),.slice (a 2) (m 2) (c 2),.slice (a 3) (m 3) (c 3),.slice (a 4) (m 4) (c 4),.slice (a 5) (m 5) (c 5),.slice (a 6) (m 6) (c 6),.slice (a 7) (m 7) (c 7),.slice (a 8) (m 8) (c 8),.slice (a 9) (m 9) (c 9),.slice (a 10) (m 10) (c 10),.slice (a 11) (m 11) (c 11)] 29) := ⟨_,rfl⟩
 obtain ⟨w2,hw2⟩ : ∃ w2,w2 = w1.alloc (.cells #[.int .i64 s] 3) := ⟨_,rfl⟩
 obtain ⟨W,hW⟩ : ∃ W,W = w2.alloc (.cells #[.slice none 0 0,.slice none 0 0,.slice none 0 0,.slice none 0 0,.slice none 0 0,.slice none 0 0,.slice none 0 0,.slice none 0 0,.slice none 0 0,.slice none 0 0,.slice none 0 0,.slice none 0 0] 29) := ⟨_,rfl⟩
 have hs1 : w1.heap.size = w.heap.size + 1 := by rw [hw1]; simp
 have hs2 : w2.heap.size = w.heap.size + 2 := by rw [hw2]; simp [hs1]
 have hsW : w.heap.size + 3 = W.heap.size := by rw [hW]; simp [hs2]
 have k2 : Below w2.heap.size w2 W := by rw [hW]; exact (Below.refl _ _).alloc (Nat.le_refl _) _
 have k1 : Below w1.heap.size w1 W := (show Below w1.heap.size w1 w2 by rw [hw2]; exact (Below.refl _ _).alloc (Nat.le_refl _) _).trans (k2.mono (by omega))
 have q : Below w.heap.size w W := (show Below w.heap.size w w1 by rw [hw1]; exact (Below.refl _ _).alloc (Nat.le_refl _) _).trans (k1.mono (by omega))
 have bn : StB W w.heap.size a m c := BoxN.below (show BoxN w1 w.heap.size 29 (bxS a m c) by rw [hw1]; exact BoxN.new _ _ (bxS a m c)) k1 (by omega)
 have bs : Boxed W (w.heap.size + 1) 3 (.int .i64 s) := (k2.block _ (by omega)).trans (show Boxed w2 (w.heap.size + 1) 3 (.int .i64 s) by
  have h := Boxed.new w1 3 (.int .i64 s)
  rw [hs1] at h
  rw [hw2]; exact h)
 have bz : BoxN W (w.heap.size + 2) 29 [.slice none 0 0,.slice none 0 0,.slice none 0 0,.slice none 0 0,.slice none 0 0,.slice none 0 0,.slice none 0 0,.slice none 0 0,.slice none 0 0,.slice none 0 0,.slice none 0 0,.slice none 0 0] := by
  have h := BoxN.new w2 29 [.slice none 0 0,.slice none 0 0,.slice none 0 0,.slice none 0 0,.slice none 0 0,.slice none 0 0,.slice none 0 0,.slice none 0 0,.slice none 0 0,.slice none 0 0,.slice none 0 0,.slice none 0 0]
  rw [hs2] at h
  rw [hW]; exact h
 have hWW : ((w.alloc (.cells #[.slice (a 0) (m 0) (c 0),.slice (a 1) (m 1) (c 1),.slice (a 2) (m 2) (c 2),.slice (a 3) (m 3) (c 3),.slice (a 4) (m 4) (c 4),.slice (a 5) (m 5) (c 5),.slice (a 6) (m 6) (c 6),.slice (a 7) (m 7) (c 7),.slice (a 8) (m 8) (c 8),.slice (a 9) (m 9) (c 9),.slice (a 10) (m 10) (c 10),.slice (a 11) (m 11) (c 11)] 29)).alloc (.cells #[.int .i64 s] 3)).alloc (.cells #[.slice none 0 0,.slice none 0 0,.slice none 0 0,.slice none 0 0,.slice none 0 0,.slice none 0 0,.slice none 0 0,.slice none 0 0,.slice none 0 0,.slice none 0 0,.slice none 0 0,.slice none 0 0] 29) = W := by rw [hW,hw2,hw1]
 clear hs1 hs2 k1 k2 hw1 hw2 hW w1 w2
 have hch := zcx W (hr0.below q) hf
 have ss := bs.cell
 go_enter Tryz.func24,Tryz.ntmps24
 go_upto_region 1 with (fail)
 (try rw [hWW])
 clear hWW
 obtain ⟨d0,d1,d2,d3,d4,d5,d6,d7,d8,d9,d10,d11⟩ := bn.c12
 by_cases hok : okS T
 ·rw [decide_eq_true hok] at hch
  go_wp2_with fail
  refine hch.mono ?_
  rintro e W2 ⟨rfl,hb2⟩
  have bn2 : StB W2 w.heap.size a m c := bn.below hb2 bn.lt
  have bs2 : Boxed W2 (w.heap.size + 1) 3 (.int .i64 s) := (hb2.block _ bs.lt).trans bs
  have bz2 := bz.below hb2 bz.lt
  have q2 := q.trans (hb2.mono q.size)
  clear ss d0 d1 d2 d3 d4 d5 d6 d7 d8 d9 d10 d11
  have ss := bs2.cell
  by_cases h1 : 1 ≤ s
  ·have e1 : decide (s < 1) = false := by simp; omega
   by_cases h2 : s < 2147483648
   ·have e2 : decide (2147483647 < s) = false := by simp; omega
    have hcon := zjb W2 ((hl.below q).below hb2) 42 #[] #[.pointer (some ⟨w.heap.size + 1,0,none⟩)] (enters_of Tryz.func42 (by kernel_rfl) rfl) (badW s) (fun V v x hV hx => zot V hx ((hV.cell (p := ⟨w.heap.size + 1,0,none⟩) bs2.lt).trans bs2.cell) hi)
    cases hbad : l.any (badW s) with
    | true =>
     rw [hbad] at hcon
     have H2 := Lib.hid (show (zbs T s l).2 = 1 from by unfold zbs; rw [if_neg (fun h => by rw [hbad] at h; cases h.2.2.2)])
     have H := Lib.hid (InT.err (K := K) (show (zbs T s l).2 ≠ 0 by rw [H2.out]; simp))
     clear hbad h1 h2 hok
     go_wp2_with fail
     refine hcon.mono ?_
     rintro e W3 ⟨rfl,hb3⟩
     have qE := q2.trans (hb3.mono q2.size)
     have bnE : StB W3 w.heap.size a m c := bn2.below hb3 bn2.lt
     have bzE := bz2.below hb3 bz2.lt
     clear ss
     have hcp := zcg W3 (hr0.below qE) hf
     obtain ⟨d0,d1,d2,d3,d4,d5,d6,d7,d8,d9,d10,d11⟩ := bnE.c12
     go_wp2_with fail
     refine hcp.mono ?_
     rintro e Wc ⟨vc,rfl,⟨ac,mc,cc,rfl,hcc⟩,hbc⟩
     have bzc := bzE.below hbc bzE.lt
     clear d0 d1 d2 d3 d4 d5 d6 d7 d8 d9 d10 d11
     go_wp2_with (first | (refine zam (us := [.slice (ac 0) (mc 0) (cc 0),.slice (ac 1) (mc 1) (cc 1),.slice (ac 2) (mc 2) (cc 2),.slice (ac 3) (mc 3) (cc 3),.slice (ac 4) (mc 4) (cc 4),.slice (ac 5) (mc 5) (cc 5),.slice (ac 6) (mc 6) (cc 6),.slice (ac 7) (mc 7) (cc 7),.slice (ac 8) (mc 8) (cc 8),.slice (ac 9) (mc 9) (cc 9),.slice (ac 10) (mc 10) (cc 10),.slice (ac 11) (mc 11) (cc 11)]) (by kernel_rfl) rfl rfl rfl rfl rfl rfl bzc rfl (fun W9 hg9 bx9 => ?_)) | fail)
     have bx9' : StB W9 (w.heap.size + 2) ac mc cc := bx9
     obtain ⟨d0,d1,d2,d3,d4,d5,d6,d7,d8,d9,d10,d11⟩ := bx9'.c12
     refine bodyPost_ret (v := .tuple #[.agg #[.slice (ac 0) (mc 0) (cc 0),.slice (ac 1) (mc 1) (cc 1),.slice (ac 2) (mc 2) (cc 2),.slice (ac 3) (mc 3) (cc 3),.slice (ac 4) (mc 4) (cc 4),.slice (ac 5) (mc 5) (cc 5),.slice (ac 6) (mc 6) (cc 6),.slice (ac 7) (mc 7) (cc 7),.slice (ac 8) (mc 8) (cc 8),.slice (ac 9) (mc 9) (cc 9),.slice (ac 10) (mc 10) (cc 10),.slice (ac 11) (mc 11) (cc 11)],.int .i64 1]) (by simp [results,Tryz.results24,go_sem,loadVar,isAgg,run_underlying Tryz.underlying29,zab (show (Tryz.prog.info? 29).map (·.size) = some 12 by kernel_rfl),loadCellsFrom,Addr.add,d0,d1,d2,d3,d4,d5,d6,d7,d8,d9,d10,d11]) rfl ?_
     have hs9 := hg9.size
     have hsE := qE.size
     have hsc := hbc.size
     have hzl := bzE.lt
     have hne : ∀ k,k < Wc.heap.size → k ≠ w.heap.size + 2 → W9.heap[k]? = Wc.heap[k]? := fun k h1 h2 => hg9.block k h1 (fun e => h2 (by injection e))
     refine ⟨_,T,by rw [H2.out]; rfl,⟨ac,mc,cc,rfl,fun j hj => ((hcc j hj).keep fun k hk => hne k hk.2 (by omega)).weak fun k hk => ⟨by omega,by omega⟩⟩,(qE.trans (hbc.mono hsE)).trans ⟨hg9.os,hg9.tape,hg9.output,hs9,fun k hk => hne k (by omega) (by omega)⟩,H.out⟩
    | false =>
     rw [hbad] at hcon
     have hII := Lib.hid (show zbs T s l = goI (tabS T) (tabS T) s l from by unfold zbs; rw [if_pos ⟨hok,h1,h2,hbad⟩])
     have hno : ∀ x ∈ l,badW s x = false := fun x hx => by
      cases hx2 : badW s x with
      | false => rfl
      | true => rw [List.any_eq_true.2 ⟨x,hx,hx2⟩] at hbad; cases hbad
     replace hno := Lib.hid hno
     clear hbad h1 h2
     go_wp2_with fail
     refine hcon.mono ?_
     rintro e W3 ⟨rfl,hb3⟩
     have bn3 : StB W3 w.heap.size a m c := bn2.below hb3 bn2.lt
     have bs3 : Boxed W3 (w.heap.size + 1) 3 (.int .i64 s) := (hb3.block _ bs2.lt).trans bs2
     have bz3 := bz2.below hb3 bz2.lt
     have q3 := q2.trans (hb3.mono q2.size)
     clear ss
     have hcp := zcg W3 (hr0.below q3) hf
     obtain ⟨d0,d1,d2,d3,d4,d5,d6,d7,d8,d9,d10,d11⟩ := bn3.c12
     go_wp2_with fail
     refine hcp.mono ?_
     rintro e W4 ⟨v4,rfl,⟨a1,m1,c1,rfl,hcp⟩,hb4⟩
     obtain ⟨W5,hW5⟩ : ∃ W5,W5 = W4.alloc (.cells #[.slice (a1 0) (m1 0) (c1 0),.slice (a1 1) (m1 1) (c1 1),.slice (a1 2) (m1 2) (c1 2),.slice (a1 3) (m1 3) (c1 3),.slice (a1 4) (m1 4) (c1 4),.slice (a1 5) (m1 5) (c1 5),.slice (a1 6) (m1 6) (c1 6),.slice (a1 7) (m1 7) (c1 7),.slice (a1 8) (m1 8) (c1 8),.slice (a1 9) (m1 9) (c1 9),.slice (a1 10) (m1 10) (c1 10),.slice (a1 11) (m1 11) (c1 11)] 29) := ⟨_,rfl⟩
     have b5 : Below W4.heap.size W4 W5 := by rw [hW5]; exact (Below.refl _ _).alloc (Nat.le_refl _) _
     have bx : StB W5 W4.heap.size a1 m1 c1 := by rw [hW5]; exact BoxN.new _ _ (bxS a1 m1 c1)
     have hs4 := hb4.size
     have hs5 := b5.size
     have hs3 : w.heap.size + 3 ≤ W3.heap.size := by have := bz3.lt; omega
     have hb45 := (hb4.mono (Nat.le_refl _)).trans (b5.mono hs4)
     have bn5 : StB W5 w.heap.size a m c := bn3.below hb45 bn3.lt
     have bs5 : Boxed W5 (w.heap.size + 1) 3 (.int .i64 s) := (hb45.block _ bs3.lt).trans bs3
     have bz5 := bz3.below hb45 bz3.lt
     have q5 := q3.trans (hb45.mono q3.size)
     replace hcp : ∀ j,j < 4 → RdN (fun k => w.heap.size + 3 ≤ k ∧ k < W5.heap.size ∧ k ≠ W4.heap.size) W5 (.agg #[.slice (a1 (3 * j)) (m1 (3 * j)) (c1 (3 * j)),.slice (a1 (3 * j + 1)) (m1 (3 * j + 1)) (c1 (3 * j + 1)),.slice (a1 (3 * j + 2)) (m1 (3 * j + 2)) (c1 (3 * j + 2))]) (T j) := fun j hj => ((hcp j hj).keep fun k hk => b5.block k hk.2).weak fun k hk => ⟨by omega,by omega,by omega⟩
     clear d0 d1 d2 d3 d4 d5 d6 d7 d8 d9 d10 d11
     go_upto_region 5 with (fail)
     rw [← hW5]
     clear hW5
     go_wp2_with fail
     go_loopw [37] (fun v wr => ∃ (i : Nat) (a2 : Nat → Option Addr) (m2 c2 : Nat → Nat) (T' : Sto) (Lc : Tb),v = .int .i64 (i : Int) ∧ i ≤ l.length ∧ Below W4.heap.size W5 wr ∧ StB wr W4.heap.size a2 m2 c2 ∧ InS T s l K i T' Lc ∧
      ∀ j,j < 4 → RdN (fun k => w.heap.size + 3 ≤ k ∧ k < wr.heap.size ∧ k ≠ W4.heap.size) wr (.agg #[.slice (a2 (3 * j)) (m2 (3 * j)) (c2 (3 * j)),.slice (a2 (3 * j + 1)) (m2 (3 * j + 1)) (c2 (3 * j + 1)),.slice (a2 (3 * j + 2)) (m2 (3 * j + 2)) (c2 (3 * j + 2))]) (T' j)) (fun v _ => l.length - toN v)
     case atStart => exact ⟨0,a1,m1,c1,T,tabS T,rfl,by omega,Below.refl _ _ |>.mono (by omega),bx,InS.start hok (hc hok),hcp⟩
     case round =>
      obtain ⟨i,a2,m2,c2,T',Lc,rfl,hil,hb,bx,hIS,hA⟩ := hrel
      replace hA := Lib.hid hA
      have hbl := bx.lt
      have qw : Below w.heap.size w wr := q5.trans (hb.mono (by omega))
      have hsz := hb.size
      rcases Nat.lt_or_ge i l.length with hlt0 | hge
      ·have dl : decide ((i : Int) < (l.length : Int)) = true := by simp; omega
       obtain ⟨lb,lo,kA,kC,vA,vC,rfl,_,c0,c1',c2',c3,hk1,hv1,h64⟩ := (hl.below qw).wr i hlt0
       have hbx := bad_no (hno.out _ (List.getElem_mem hlt0))
       obtain ⟨x,hxe⟩ : ∃ x,x = l[i] := ⟨_,rfl⟩
       rw [← hxe] at c0 c1' c2' c3 hk1 hv1 h64 hbx
       replace hxe := Lib.hid hxe
       obtain ⟨ht0,ht4,hb16,hmay⟩ := hbx
       obtain ⟨W7,hW7⟩ : ∃ W7,W7 = wr.alloc (.cells #[.int .i64 x.table,.slice kA x.key.length kC,.bool x.gone,.slice vA x.val.length vC] 51) := ⟨_,rfl⟩
       have b7 : Below wr.heap.size wr W7 := by rw [hW7]; exact (Below.refl _ _).alloc (Nat.le_refl _) _
       have bw : BoxN W7 wr.heap.size 51 [.int .i64 x.table,.slice kA x.key.length kC,.bool x.gone,.slice vA x.val.length vC] := by rw [hW7]; exact BoxN.new _ _ _
       replace bx : StB W7 W4.heap.size a2 m2 c2 := bx.below b7 bx.lt
       have hb57 : Below W4.heap.size W5 W7 := hb.trans (b7.mono (by omega))
       have bs : Boxed W7 (w.heap.size + 1) 3 (.int .i64 s) := (hb57.block _ (by omega)).trans bs5
       have hk7 := hk1.below b7
       have hv7 := hv1.below b7
       have hs7 := b7.size
       go_upto_region 8 with (fail)
       rw [← hW7]
       clear hW7 c0 c1' c2' c3 hk1 hv1
       obtain ⟨tt,htt,ht⟩ : ∃ tt : Nat,tt < 4 ∧ x.table = (tt : Int) := ⟨x.table.toNat,by omega,by omega⟩
       ·have hn7 : RdN (fun k => w.heap.size + 3 ≤ k) W7 (.agg #[.slice (a2 (3 * tt)) (m2 (3 * tt)) (c2 (3 * tt)),.slice (a2 (3 * tt + 1)) (m2 (3 * tt + 1)) (c2 (3 * tt + 1)),.slice (a2 (3 * tt + 2)) (m2 (3 * tt + 2)) (c2 (3 * tt + 2))]) (T' tt) := ((hA.out tt htt).below b7).weak fun k hk => hk.1
        have hokt := hIS.ok tt htt
        have hlt : (zaa (T' tt)).length ≤ 60 := by rw [hokt.2]; exact hIS.len tt htt
        have hct : ∀ p ∈ zaa (T' tt),p.chain.length ≤ 900 := by rw [hokt.2]; exact fun p hp => by have := hIS.ch tt htt p hp; omega
        obtain ⟨R,hR⟩ : ∃ R,R = zcp (Lc tt) x.key (verW x s) := ⟨_,rfl⟩
        have hRe := Lib.hid hR
        clear hR
        refine zd0 (K := fun _ _ => True) (by kernel_rfl) (by kernel_rfl) [10,11,12,13,14,15] (by kernel_rfl) [lEq (.pointer (some ⟨wr.heap.size,0,none⟩)),lEq (.int .i64 x.table),lEq (.pointer (some ⟨W4.heap.size,0,none⟩)),lEq (.pointer (some ⟨W4.heap.size,0 + tt * 3,none⟩)),lEq (.agg #[.slice (a2 (3 * tt)) (m2 (3 * tt)) (c2 (3 * tt)),.slice (a2 (3 * tt + 1)) (m2 (3 * tt + 1)) (c2 (3 * tt + 1)),.slice (a2 (3 * tt + 2)) (m2 (3 * tt + 2)) (c2 (3 * tt + 2))]),lEq (.pointer (some ⟨wr.heap.size,1,none⟩)),lEq (.slice kA x.key.length kC),lEq (.agg #[.int .i64 x.table,.slice kA x.key.length kC,.bool x.gone,.slice vA x.val.length vC]),lEq (.int .i64 s),lEq (.agg #[.int .i64 s,.bool x.gone,.slice vA x.val.length vC]),lAny,lAny,lAny,lAny,lAny,lAny,lEq (.int .i64 (R.2 : Nat))]
         (CbL (bv ([])).toArray 5 (NodeR (InQ R)) zf8 NodeB (KeyW ([])) (VerW ([])) W7) (CbL.more (stays (InQ R) ([]) ([]))) (CbS.start _)
         ⟨?o0,?o1,?o2,?o3,?o4,?o5,?o6,?o7,?o8,?o9,?o10,?o11,?o12,?o13,?o14,?o15,?o16,trivial⟩ ?fin
        case o0 =>
         refine StOp.free rfl (by kernel_rfl) (fun A va D w' hF hT hN hE hd hu hg => ?_)
         have e1 : A.eval (.tmp 11) = .pointer (some ⟨wr.heap.size,0,none⟩) := hF 11 rfl
         exact zai wrS rfl e1 (by omega) ⟨_,rfl,rfl,Below.refl _ _⟩
        case o1 =>
         refine StOp.free rfl (by kernel_rfl) (fun A va D w' hF hT hN hE hd hu hg => ?_)
         have e1 : A.eval (.tmp 42) = .pointer (some ⟨wr.heap.size,0,none⟩) := (hT 42 0 (by simp) rfl).trans (hg ⟨0,.data⟩ (by simp) rfl rfl)
         exact zfm (k := .i64) rfl e1 (by kernel_rfl) ((bw.below (CbL.below hE) bw.lt).cell (i := 0) rfl) ⟨_,rfl,rfl,Below.refl _ _⟩
        case o2 =>
         refine StOp.free rfl (by kernel_rfl) (fun A va D w' hF hT hN hE hd hu hg => ?_)
         have e1 : A.eval (.tmp 9) = .pointer (some ⟨W4.heap.size,0,none⟩) := hF 9 rfl
         exact zpt stF7 rfl e1 ⟨_,rfl,rfl,Below.refl _ _⟩
        case o3 =>
         refine StOp.free rfl (by kernel_rfl) (fun A va D w' hF hT hN hE hd hu hg => ?_)
         have e1 : A.eval (.tmp 44) = .pointer (some ⟨W4.heap.size,0,none⟩) := (hT 44 2 (by simp) rfl).trans (hg ⟨2,.data⟩ (by simp) rfl rfl)
         have e2 : A.eval (.tmp 43) = .int .i64 x.table := (hT 43 1 (by simp) rfl).trans (hg ⟨1,.data⟩ (by simp) rfl rfl)
         exact wp_ixP taP (k := tt) rfl e1 e2 (by omega) (by omega) ⟨_,rfl,rfl,Below.refl _ _⟩
        case o4 =>
         refine StOp.free rfl (by kernel_rfl) (fun A va D w' hF hT hN hE hd hu hg => ?_)
         have e1 : A.eval (.tmp 45) = .pointer (some ⟨W4.heap.size,0 + tt * 3,none⟩) := (hT 45 3 (by simp) rfl).trans (hg ⟨3,.data⟩ (by simp) rfl rfl)
         have h3 := StB.at3 (bx.below (CbL.below hE) bx.lt) htt
         exact zc0 zce rfl e1 h3.1 h3.2.1 h3.2.2 ⟨_,rfl,rfl,Below.refl _ _⟩
        case o5 =>
         refine StOp.free rfl (by kernel_rfl) (fun A va D w' hF hT hN hE hd hu hg => ?_)
         have e1 : A.eval (.tmp 11) = .pointer (some ⟨wr.heap.size,0,none⟩) := hF 11 rfl
         exact zai wrS rfl e1 (by omega) ⟨_,rfl,rfl,Below.refl _ _⟩
        case o6 =>
         refine StOp.free rfl (by kernel_rfl) (fun A va D w' hF hT hN hE hd hu hg => ?_)
         have e1 : A.eval (.tmp 47) = .pointer (some ⟨wr.heap.size,1,none⟩) := (hT 47 5 (by simp) rfl).trans (hg ⟨5,.data⟩ (by simp) rfl rfl)
         exact zad (e := 5) rfl e1 (by kernel_rfl) ((bw.below (CbL.below hE) bw.lt).cell (i := 1) rfl) ⟨_,rfl,rfl,Below.refl _ _⟩
        case o7 =>
         refine StOp.free rfl (by kernel_rfl) (fun A va D w' hF hT hN hE hd hu hg => ?_)
         have e1 : A.eval (.tmp 11) = .pointer (some ⟨wr.heap.size,0,none⟩) := hF 11 rfl
         exact zi7 wrS rfl e1 ((bw.below (CbL.below hE) bw.lt).cell (i := 0) rfl) ((bw.below (CbL.below hE) bw.lt).cell (i := 1) rfl) ((bw.below (CbL.below hE) bw.lt).cell (i := 2) rfl) ((bw.below (CbL.below hE) bw.lt).cell (i := 3) rfl) ⟨_,rfl,rfl,Below.refl _ _⟩
        case o8 =>
         refine StOp.free rfl (by kernel_rfl) (fun A va D w' hF hT hN hE hd hu hg => ?_)
         have e1 : A.eval (.tmp 4) = .pointer (some ⟨w.heap.size + 1,0,none⟩) := hF 4 rfl
         exact zfm (k := .i64) rfl e1 (by kernel_rfl) (((CbL.below hE).cell (p := ⟨w.heap.size + 1,0,none⟩) bs.lt).trans bs.cell) ⟨_,rfl,rfl,Below.refl _ _⟩
        case o9 =>
         refine StOp.free rfl (by kernel_rfl) (fun A va D w' hF hT hN hE hd hu hg => ?_)
         have e1 : A.eval (.tmp 49) = .agg #[.int .i64 x.table,.slice kA x.key.length kC,.bool x.gone,.slice vA x.val.length vC] := (hT 49 7 (by simp) rfl).trans (hg ⟨7,.data⟩ (by simp) rfl rfl)
         have e2 : A.eval (.tmp 50) = .int .i64 s := (hT 50 8 (by simp) rfl).trans (hg ⟨8,.data⟩ (by simp) rfl rfl)
         refine zak rfl (enters_of Tryz.func45 (by kernel_rfl) rfl) (args := #[.agg #[.int .i64 x.table,.slice kA x.key.length kC,.bool x.gone,.slice vA x.val.length vC],.int .i64 s]) (by simp only [List.map_toArray,List.map_cons,List.map_nil,e1,e2]) ((zhh w' x kA vA kC vC s).mono ?_)
         rintro e w2 ⟨rfl,hb2⟩
         exact ⟨_,rfl,_,rfl,rfl,hb2⟩
        case o10 =>
         refine StOp.set rfl (by kernel_rfl) (fun A va D w' hF hT hN hE hd hu hg => ?_)
         have e1 : A.eval (.tmp 46) = .agg #[.slice (a2 (3 * tt)) (m2 (3 * tt)) (c2 (3 * tt)),.slice (a2 (3 * tt + 1)) (m2 (3 * tt + 1)) (c2 (3 * tt + 1)),.slice (a2 (3 * tt + 2)) (m2 (3 * tt + 2)) (c2 (3 * tt + 2))] := (hT 46 4 (by simp) rfl).trans (hg ⟨4,.data⟩ (by simp) rfl rfl)
         have e2 : A.eval (.tmp 48) = .slice kA x.key.length kC := (hT 48 6 (by simp) rfl).trans (hg ⟨6,.data⟩ (by simp) rfl rfl)
         have e3 : A.eval (.tmp 51) = .agg #[.int .i64 s,.bool x.gone,.slice vA x.val.length vC] := (hT 51 9 (by simp) rfl).trans (hg ⟨9,.data⟩ (by simp) rfl rfl)
         have hE2 := hE
         simp only [told,List.map_cons,List.map_nil,hN,Bool.false_eq_true,if_false] at hE2
         have hBE := hE2.be
         refine zak rfl (enters_of Tryz.func48 (by kernel_rfl) rfl) (args := #[.agg #[.slice (a2 (3 * tt)) (m2 (3 * tt)) (c2 (3 * tt)),.slice (a2 (3 * tt + 1)) (m2 (3 * tt + 1)) (c2 (3 * tt + 1)),.slice (a2 (3 * tt + 2)) (m2 (3 * tt + 2)) (c2 (3 * tt + 2))],.slice kA x.key.length kC,.agg #[.int .i64 s,.bool x.gone,.slice vA x.val.length vC]]) (by simp only [List.map_toArray,List.map_cons,List.map_nil,e1,e2,e3]) ((zo6 w' (hn7.below hBE) hokt.1 hlt hct (hk7.below hBE) hb16 (x := verW x s) (hv7.below hBE) hmay).mono ?_)
         rintro e w2 ⟨u,mm,rfl,hrd,hb2,hz⟩
         rw [hokt.2,← hRe.out] at hz ⊢
         have h5 := CbS.call (stays (InQ R) ([]) ([])) hE2 (by simp) hb2 (v := u) (e := .int .i64 (R.2 : Nat)) ⟨mm,_,rfl,⟨rfl,hz⟩,hrd⟩
         exact ⟨_,rfl,_,rfl,by simpa [CbL,told,don,upd,zb7] using h5,trivial⟩
        case o11 =>
         refine StOp.set rfl (by kernel_rfl) (fun A va D w' hF hT hN hE hd hu hg => ?_)
         have x1 : A.eval (.tmp 52) = va 10 := hT 52 10 (by simp) rfl
         have hE2 := hE
         have d10 : D 10 = true := hd ⟨10,.data⟩ (by simp) rfl
         simp only [told,List.map_cons,List.map_nil,hN,d10,Bool.false_eq_true,if_false,if_true] at hE2
         have h5 := CbS.move hE2
         exact BigFrame.wp_move _ rfl ⟨_,rfl,by rw [x1]; simpa [CbL,told,don,upd,zb7,d10] using h5,trivial⟩
        case o12 =>
         refine StOp.set rfl (by kernel_rfl) (fun A va D w' hF hT hN hE hd hu hg => ?_)
         have x1 : A.eval (.tmp 41) = va 11 := hT 41 11 (by simp) rfl
         have hE2 := hE
         have d11 : D 11 = true := hd ⟨11,.data⟩ (by simp) rfl
         simp only [told,List.map_cons,List.map_nil,hN,d11,Bool.false_eq_true,if_false,if_true] at hE2
         obtain ⟨v,e,em⟩ := CbS.tup hE2
         rw [em] at hE2
         have h5 := CbS.ex0 hE2
         exact wp_ex rfl (x1.trans em) rfl ⟨_,rfl,by simpa [CbL,told,don,upd,d11,em] using h5,trivial⟩
        case o13 =>
         refine StOp.set rfl (by kernel_rfl) (fun A va D w' hF hT hN hE hd hu hg => ?_)
         have x1 : A.eval (.tmp 41) = va 11 := hT 41 11 (by simp) rfl
         have hE2 := hE
         have d11 : D 11 = true := hd ⟨11,.data⟩ (by simp) rfl
         simp only [told,List.map_cons,List.map_nil,hN,d11,Bool.false_eq_true,if_false,if_true] at hE2
         obtain ⟨v,e,em⟩ := CbS.tup hE2
         rw [em] at hE2
         have h5 := CbS.ex1 hE2
         exact wp_ex rfl (x1.trans em) rfl ⟨_,rfl,by simpa [CbL,told,don,upd,d11,em] using h5,trivial⟩
        case o14 =>
         refine StOp.set rfl (by kernel_rfl) (fun A va D w' hF hT hN hE hd hu hg => ?_)
         have hE2 := hE
         simp only [told,List.map_cons,List.map_nil,hN,Bool.false_eq_true,if_false] at hE2
         refine zes rfl (fun w2 hb2 hz => ⟨_,rfl,?_,trivial⟩)
         have h5 := CbS.alloc (stays (InQ R) ([]) ([])) hE2 hb2 hz
         simpa [CbL,told,don,upd,zb7] using h5
        case o15 =>
         refine StOp.set rfl (by kernel_rfl) (fun A va D w' hF hT hN hE hd hu hg => ?_)
         have x1 : A.eval (.tmp 12) = va 14 := hT 12 14 (by simp) rfl
         have x2 : A.eval (.tmp 53) = va 12 := hT 53 12 (by simp) rfl
         have hE2 := hE
         have d14 : D 14 = true := hd ⟨14,.data⟩ (by simp) rfl
         have d12 : D 12 = true := hd ⟨12,.data⟩ (by simp) rfl
         simp only [told,List.map_cons,List.map_nil,hN,d14,d12,Bool.false_eq_true,if_false,if_true] at hE2
         obtain ⟨b,eb,hb0⟩ := CbS.box hE2
         obtain ⟨e,hm⟩ := hE2.mx _ rfl
         obtain ⟨v,e2,ec,n2,er,_,_,hrd⟩ := hE2.rr _ (hE2.mv _ hm)
         obtain ⟨A1,B1,A2,B2,A3,B3,ev,_⟩ := id hrd
         injection ec with ec
         injection ec with ec
         injection ec with ec _
         rw [← ec] at ev
         refine zb2 rfl (x1.trans eb) (x2.trans ev) rfl rfl rfl hb0 (fun w2 hg2 ht2 => ⟨_,rfl,?_,trivial⟩)
         rw [eb] at hE2
         have h5 := CbS.sto (u := undef) (stays (InQ R) ([]) ([])) hE2 hg2 ⟨_,_,_,ev,ht2⟩
         simpa [CbL,told,don,upd,d14,d12,eb] using h5
        case o16 =>
         refine StOp.free rfl (by kernel_rfl) (fun A va D w' hF hT hN hE hd hu hg => ?_)
         have x1 : A.eval (.tmp 54) = va 13 := hT 54 13 (by simp) rfl
         have hE2 := hE
         have d13 : D 13 = true := hd ⟨13,.data⟩ (by simp) rfl
         simp only [told,List.map_cons,List.map_nil,d13,if_true] at hE2
         have ee := CbS.err hE2 (fun n er hQ => hQ.1)
         exact BigFrame.wp_assign _ rfl ⟨_,rfl,x1.trans ee,Below.refl _ _⟩
        case fin =>
         intro vs1 W1 hE hG
         obtain ⟨bM,ez,em,ec,hbM,hBx,hR,hbE⟩ := CbS.done (nodeR _) hE (by simp)
         obtain ⟨nM,er,ee,hQ,hM⟩ := hR
         have her : er = R.2 := hQ.1
         rw [her] at ee hQ
         clear her
         obtain ⟨x1,y1,z1,ev,hTM⟩ := hBx
         have g0 : vs1 0 = .pointer (some ⟨wr.heap.size,0,none⟩) := hG 0 (by decide) rfl
         have g1 : vs1 1 = .int .i64 x.table := hG 1 (by decide) rfl
         have g2 : vs1 2 = .pointer (some ⟨W4.heap.size,0,none⟩) := hG 2 (by decide) rfl
         have g3 : vs1 3 = .pointer (some ⟨W4.heap.size,0 + tt * 3,none⟩) := hG 3 (by decide) rfl
         have g4 : vs1 4 = .agg #[.slice (a2 (3 * tt)) (m2 (3 * tt)) (c2 (3 * tt)),.slice (a2 (3 * tt + 1)) (m2 (3 * tt + 1)) (c2 (3 * tt + 1)),.slice (a2 (3 * tt + 2)) (m2 (3 * tt + 2)) (c2 (3 * tt + 2))] := hG 4 (by decide) rfl
         have g5 : vs1 5 = .pointer (some ⟨wr.heap.size,1,none⟩) := hG 5 (by decide) rfl
         have g6 : vs1 6 = .slice kA x.key.length kC := hG 6 (by decide) rfl
         have g7 : vs1 7 = .agg #[.int .i64 x.table,.slice kA x.key.length kC,.bool x.gone,.slice vA x.val.length vC] := hG 7 (by decide) rfl
         have g8 : vs1 8 = .int .i64 s := hG 8 (by decide) rfl
         have g9 : vs1 9 = .agg #[.int .i64 s,.bool x.gone,.slice vA x.val.length vC] := hG 9 (by decide) rfl
         have g16 : vs1 16 = .int .i64 (R.2 : Nat) := hG 16 (by decide) rfl
         simp only [zae,g0,g1,g2,g3,g4,g5,g6,g7,g8,g9,g16,ec,em,ev,ee,ez]
         rw [ev] at hM
         obtain ⟨A1,B1,A3,B3,A5,B5,e3,_,_,_⟩ := id hM
         injection e3 with e3
         injection e3 with e3
         injection e3 with e4 e3
         injection e3 with e5 e3
         injection e3 with e6 _
         subst e4 e5 e6
         clear hE hG ec em ev ee ez g0 g1 g2 g3 g4 g5 g6 g7 g8 g9 g16
         have hs1 := hbE.size
         go_simp
         have q1 : Below w.heap.size w W1 := (qw.trans (b7.mono (by omega))).trans (hbE.mono (by omega))
         have ht' : x.table.toNat = tt := by omega
         by_cases hz : R.2 = 0
         ·have dz : ((R.2 : Int) != 0) = false := by rw [hz]; rfl
          have hmM := hQ.2 hz
          have hst := hIS.step hlt0 (hno.out _ (List.getElem_mem hlt0)) (by rw [← hxe.out,ht',← hRe.out]; exact hz) (m := nM) (by rw [← hxe.out,ht',← hRe.out]; exact hmM)
          rw [← hxe.out,ht',← hRe.out] at hst
          replace hst := Lib.hid hst
          have bx1 : StB W1 W4.heap.size a2 m2 c2 := bx.below hbE bx.lt
          have bw1 := bw.below hbE bw.lt
          have y0 := hTM.cell0
          have y1 := hTM.cell1
          have y2 := hTM.cell2
          have x0 := bw1.cell (i := 0) rfl
          have hbl := bx.lt
          have hA1 : ∀ j,j < 4 → RdN (fun k => w.heap.size + 3 ≤ k ∧ k < wr.heap.size ∧ k ≠ W4.heap.size) W1 (.agg #[.slice (a2 (3 * j)) (m2 (3 * j)) (c2 (3 * j)),.slice (a2 (3 * j + 1)) (m2 (3 * j + 1)) (c2 (3 * j + 1)),.slice (a2 (3 * j + 2)) (m2 (3 * j + 2)) (c2 (3 * j + 2))]) (T' j) := fun j hj => (hA.out j hj).keep fun k hk => (hbE.block k (by omega)).trans (b7.block k hk.2.1)
          replace hA1 := Lib.hid hA1
          have hM1 := Lib.hid (hM.weak (S' := fun k => w.heap.size + 3 ≤ k ∧ k < W1.heap.size ∧ k ≠ W4.heap.size) fun k hk => by
           have h1 := hk.1
           have h2 := hk.2.1
           exact ⟨by omega,h2,by omega⟩)
          replace hz := Lib.hid hz
          replace hmM := Lib.hid hmM
          clear hM hQ
          go_wp2_with (first | (refine zb9 taP tt rfl rfl rfl rfl (by omega) (by omega) ?_) | (refine za7 (us := [.slice A1 nM.keys.length B1,.slice A3 nM.chains.length B3,.slice A5 nM.kids.length B5]) (by kernel_rfl) rfl rfl rfl rfl rfl rfl bx1 (by show 0 + tt * 3 + 3 ≤ 12; omega) (fun W9 hg9 bx9 => ?_)) | fail)
          go_roundw
          case rel =>
           have hs9 := hg9.size
           have hk9 : ∀ k,k < W1.heap.size → k ≠ W4.heap.size → W9.heap[k]? = W1.heap[k]? := fun k h1 h2 => hg9.block k h1 (fun e => h2 (by injection e))
           have hb9 : Below W4.heap.size W1 W9 := ⟨hg9.os,hg9.tape,hg9.output,hs9,fun k hk => hk9 k (by omega) (by omega)⟩
           have bx9' : StB W9 W4.heap.size (upd3 tt A1 A3 A5 a2) (upd3 tt nM.keys.length nM.chains.length nM.kids.length m2) (upd3 tt B1 B3 B5 c2) := by
            unfold StB
            rw [← bxS_put htt]
            exact bx9
           refine ⟨i + 1,_,_,_,_,_,by go_num,by omega,((hb.trans (b7.mono (by omega))).trans (hbE.mono (by omega))).trans hb9,bx9',hst.out,fun j hj => ?_⟩
           by_cases e : j = tt
           ·subst e
            simp only [upd3_0,upd3_1,upd3_2,if_true]
            exact (hM1.out.keep fun k hk => hk9 k hk.2.1 hk.2.2).weak fun k hk => ⟨hk.1,by omega,hk.2.2⟩
           ·obtain ⟨u1,u2,u3⟩ := And.intro (@zp3 _ tt j A1 A3 A5 a2 e) (And.intro (@zp3 _ tt j nM.keys.length nM.chains.length nM.kids.length m2 e) (@zp3 _ tt j B1 B3 B5 c2 e))
            simp only [u1.1,u1.2.1,u1.2.2,u2.1,u2.2.1,u2.2.2,u3.1,u3.2.1,u3.2.2,if_neg e]
            exact ((hA1.out j hj).keep fun k hk => hk9 k (by omega) hk.2.2).weak fun k hk => ⟨hk.1,by omega,hk.2.2⟩
          case measure => simp [toN]; omega
         ·have dz : ((R.2 : Int) != 0) = true := by rw [bne_iff_ne]; omega
          have H2 := Lib.hid (show (zbs T s l).2 = R.2 from by
           have h := hIS.err hlt0 (by rw [← hxe.out,ht',← hRe.out]; exact hz)
           rw [← hxe.out,ht',← hRe.out] at h
           rw [hII.out,h])
          have H := Lib.hid (InT.err (K := K) (show (zbs T s l).2 ≠ 0 by rw [H2.out]; exact hz))
          have hbB : Below W4.heap.size W5 W1 := (hb.trans (b7.mono (by omega))).trans (hbE.mono (by omega))
          have qE := q1
          have bnE : StB W1 w.heap.size a m c := (hbB.block _ (by omega)).trans bn5
          have bzE : BoxN W1 (w.heap.size + 2) 29 [.slice none 0 0,.slice none 0 0,.slice none 0 0,.slice none 0 0,.slice none 0 0,.slice none 0 0,.slice none 0 0,.slice none 0 0,.slice none 0 0,.slice none 0 0,.slice none 0 0,.slice none 0 0] := (hbB.block _ (by have := bz5.lt; omega)).trans bz5
          replace hz := Lib.hid hz
          go_upto_region 10 with (fail)
          have hcp := zcg W1 (hr0.below qE) hf
          obtain ⟨d0,d1,d2,d3,d4,d5,d6,d7,d8,d9,d10,d11⟩ := bnE.c12
          go_wp2_with fail
          refine hcp.mono ?_
          rintro e Wc ⟨vc,rfl,⟨ac,mc,cc,rfl,hcc⟩,hbc⟩
          have bzc := bzE.below hbc bzE.lt
          clear d0 d1 d2 d3 d4 d5 d6 d7 d8 d9 d10 d11
          go_wp2_with (first | (refine zam (us := [.slice (ac 0) (mc 0) (cc 0),.slice (ac 1) (mc 1) (cc 1),.slice (ac 2) (mc 2) (cc 2),.slice (ac 3) (mc 3) (cc 3),.slice (ac 4) (mc 4) (cc 4),.slice (ac 5) (mc 5) (cc 5),.slice (ac 6) (mc 6) (cc 6),.slice (ac 7) (mc 7) (cc 7),.slice (ac 8) (mc 8) (cc 8),.slice (ac 9) (mc 9) (cc 9),.slice (ac 10) (mc 10) (cc 10),.slice (ac 11) (mc 11) (cc 11)]) (by kernel_rfl) rfl rfl rfl rfl rfl rfl bzc rfl (fun W9 hg9 bx9 => ?_)) | fail)
          have bx9' : StB W9 (w.heap.size + 2) ac mc cc := bx9
          obtain ⟨d0,d1,d2,d3,d4,d5,d6,d7,d8,d9,d10,d11⟩ := bx9'.c12
          refine bodyPost_ret (v := .tuple #[.agg #[.slice (ac 0) (mc 0) (cc 0),.slice (ac 1) (mc 1) (cc 1),.slice (ac 2) (mc 2) (cc 2),.slice (ac 3) (mc 3) (cc 3),.slice (ac 4) (mc 4) (cc 4),.slice (ac 5) (mc 5) (cc 5),.slice (ac 6) (mc 6) (cc 6),.slice (ac 7) (mc 7) (cc 7),.slice (ac 8) (mc 8) (cc 8),.slice (ac 9) (mc 9) (cc 9),.slice (ac 10) (mc 10) (cc 10),.slice (ac 11) (mc 11) (cc 11)],.int .i64 ((R.2 : Nat) : Int)]) (by simp [results,Tryz.results24,go_sem,loadVar,isAgg,run_underlying Tryz.underlying29,zab (show (Tryz.prog.info? 29).map (·.size) = some 12 by kernel_rfl),loadCellsFrom,Addr.add,d0,d1,d2,d3,d4,d5,d6,d7,d8,d9,d10,d11]) rfl ?_
          have hs9 := hg9.size
          have hsE := qE.size
          have hsc := hbc.size
          have hzl := bzE.lt
          have hne : ∀ k,k < Wc.heap.size → k ≠ w.heap.size + 2 → W9.heap[k]? = Wc.heap[k]? := fun k h1 h2 => hg9.block k h1 (fun e => h2 (by injection e))
          refine ⟨_,T,by rw [H2.out],⟨ac,mc,cc,rfl,fun j hj => ((hcc j hj).keep fun k hk => hne k hk.2 (by omega)).weak fun k hk => ⟨by omega,by omega⟩⟩,(qE.trans (hbc.mono hsE)).trans ⟨hg9.os,hg9.tape,hg9.output,hs9,fun k hk => hne k (by omega) (by omega)⟩,H.out⟩
      ·obtain rfl : i = l.length := by omega
       have dl : decide ((l.length : Int) < (l.length : Int)) = false := by simp
       have H2 := Lib.hid (show zbs T s l = (Lc,0) from by rw [hII.out,hIS.done])
       have bzr := bz5.below hb (by have := bz5.lt; omega)
       have hzl := bzr.lt
       obtain ⟨d0,d1,d2,d3,d4,d5,d6,d7,d8,d9,d10,d11⟩ := bx.c12
       go_wp2_with (first | (refine zam (us := [.slice (a2 0) (m2 0) (c2 0),.slice (a2 1) (m2 1) (c2 1),.slice (a2 2) (m2 2) (c2 2),.slice (a2 3) (m2 3) (c2 3),.slice (a2 4) (m2 4) (c2 4),.slice (a2 5) (m2 5) (c2 5),.slice (a2 6) (m2 6) (c2 6),.slice (a2 7) (m2 7) (c2 7),.slice (a2 8) (m2 8) (c2 8),.slice (a2 9) (m2 9) (c2 9),.slice (a2 10) (m2 10) (c2 10),.slice (a2 11) (m2 11) (c2 11)]) (by kernel_rfl) rfl rfl rfl rfl rfl rfl bzr rfl (fun W9 hg9 bx9 => ?_)) | fail)
       clear d0 d1 d2 d3 d4 d5 d6 d7 d8 d9 d10 d11
       have bx9' : StB W9 (w.heap.size + 2) a2 m2 c2 := bx9
       obtain ⟨d0,d1,d2,d3,d4,d5,d6,d7,d8,d9,d10,d11⟩ := bx9'.c12
       refine bodyPost_ret (v := .tuple #[.agg #[.slice (a2 0) (m2 0) (c2 0),.slice (a2 1) (m2 1) (c2 1),.slice (a2 2) (m2 2) (c2 2),.slice (a2 3) (m2 3) (c2 3),.slice (a2 4) (m2 4) (c2 4),.slice (a2 5) (m2 5) (c2 5),.slice (a2 6) (m2 6) (c2 6),.slice (a2 7) (m2 7) (c2 7),.slice (a2 8) (m2 8) (c2 8),.slice (a2 9) (m2 9) (c2 9),.slice (a2 10) (m2 10) (c2 10),.slice (a2 11) (m2 11) (c2 11)],.int .i64 0]) (by simp [results,Tryz.results24,go_sem,loadVar,isAgg,run_underlying Tryz.underlying29,zab (show (Tryz.prog.info? 29).map (·.size) = some 12 by kernel_rfl),loadCellsFrom,Addr.add,d0,d1,d2,d3,d4,d5,d6,d7,d8,d9,d10,d11]) rfl ?_
       have hs9 := hg9.size
       have hne : ∀ k,k < wr.heap.size → k ≠ w.heap.size + 2 → W9.heap[k]? = wr.heap[k]? := fun k h1 h2 => hg9.block k h1 (fun e => h2 (by injection e))
       refine ⟨_,T',by rw [H2.out]; rfl,⟨a2,m2,c2,rfl,fun j hj => ((hA.out j hj).keep fun k hk => hne k hk.2.1 (by omega)).weak fun k hk => ⟨by omega,by omega⟩⟩,qw.trans ⟨hg9.os,hg9.tape,hg9.output,hs9,fun k hk => hne k (by omega) (by omega)⟩,fun h => absurd (by rw [H2.out]) h,fun _ => ⟨hok,fun j hj => ?_⟩⟩
       rw [H2.out]
       obtain ⟨p1,p2⟩ := hIS.ok j hj
       exact ⟨p1,p2,by rw [p2]; exact hIS.len j hj,by rw [p2]; exact hIS.ch j hj⟩
   ·have e2 : decide (2147483647 < s) = true := by simp; omega
    have H2 := Lib.hid (show (zbs T s l).2 = 1 from by unfold zbs; rw [if_neg (fun h => h2 h.2.2.1)])
    have H := Lib.hid (InT.err (K := K) (show (zbs T s l).2 ≠ 0 by rw [H2.out]; simp))
    clear h1 h2 hok
    go_upto_region 3 with (fail)
    clear ss
    have qE := q2
    have bnE := bn2
    have bzE := bz2
    have hcp := zcg W2 (hr0.below qE) hf
    obtain ⟨d0,d1,d2,d3,d4,d5,d6,d7,d8,d9,d10,d11⟩ := bnE.c12
    go_wp2_with fail
    refine hcp.mono ?_
    rintro e Wc ⟨vc,rfl,⟨ac,mc,cc,rfl,hcc⟩,hbc⟩
    have bzc := bzE.below hbc bzE.lt
    clear d0 d1 d2 d3 d4 d5 d6 d7 d8 d9 d10 d11
    go_wp2_with (first | (refine zam (us := [.slice (ac 0) (mc 0) (cc 0),.slice (ac 1) (mc 1) (cc 1),.slice (ac 2) (mc 2) (cc 2),.slice (ac 3) (mc 3) (cc 3),.slice (ac 4) (mc 4) (cc 4),.slice (ac 5) (mc 5) (cc 5),.slice (ac 6) (mc 6) (cc 6),.slice (ac 7) (mc 7) (cc 7),.slice (ac 8) (mc 8) (cc 8),.slice (ac 9) (mc 9) (cc 9),.slice (ac 10) (mc 10) (cc 10),.slice (ac 11) (mc 11) (cc 11)]) (by kernel_rfl) rfl rfl rfl rfl rfl rfl bzc rfl (fun W9 hg9 bx9 => ?_)) | fail)
    have bx9' : StB W9 (w.heap.size + 2) ac mc cc := bx9
    obtain ⟨d0,d1,d2,d3,d4,d5,d6,d7,d8,d9,d10,d11⟩ := bx9'.c12
    refine bodyPost_ret (v := .tuple #[.agg #[.slice (ac 0) (mc 0) (cc 0),.slice (ac 1) (mc 1) (cc 1),.slice (ac 2) (mc 2) (cc 2),.slice (ac 3) (mc 3) (cc 3),.slice (ac 4) (mc 4) (cc 4),.slice (ac 5) (mc 5) (cc 5),.slice (ac 6) (mc 6) (cc 6),.slice (ac 7) (mc 7) (cc 7),.slice (ac 8) (mc 8) (cc 8),.slice (ac 9) (mc 9) (cc 9),.slice (ac 10) (mc 10) (cc 10),.slice (ac 11) (mc 11) (cc 11)],.int .i64 1]) (by simp [results,Tryz.results24,go_sem,loadVar,isAgg,run_underlying Tryz.underlying29,zab (show (Tryz.prog.info? 29).map (·.size) = some 12 by kernel_rfl),loadCellsFrom,Addr.add,d0,d1,d2,d3,d4,d5,d6,d7,d8,d9,d10,d11]) rfl ?_
    have hs9 := hg9.size
    have hsE := qE.size
    have hsc := hbc.size
    have hzl := bzE.lt
    have hne : ∀ k,k < Wc.heap.size → k ≠ w.heap.size + 2 → W9.heap[k]? = Wc.heap[k]? := fun k h1 h2 => hg9.block k h1 (fun e => h2 (by injection e))
    refine ⟨_,T,by rw [H2.out]; rfl,⟨ac,mc,cc,rfl,fun j hj => ((hcc j hj).keep fun k hk => hne k hk.2 (by omega)).weak fun k hk => ⟨by omega,by omega⟩⟩,(qE.trans (hbc.mono hsE)).trans ⟨hg9.os,hg9.tape,hg9.output,hs9,fun k hk => hne k (by omega) (by omega)⟩,H.out⟩
  ·have e1 : decide (s < 1) = true := by simp; omega
   have H2 := Lib.hid (show (zbs T s l).2 = 1 from by unfold zbs; rw [if_neg (fun h => h1 h.2.1)])
   have H := Lib.hid (InT.err (K := K) (show (zbs T s l).2 ≠ 0 by rw [H2.out]; simp))
   clear h1 hok
   go_upto_region 3 with (fail)
   clear ss
   have qE := q2
   have bnE := bn2
   have bzE := bz2
   have hcp := zcg W2 (hr0.below qE) hf
   obtain ⟨d0,d1,d2,d3,d4,d5,d6,d7,d8,d9,d10,d11⟩ := bnE.c12
   go_wp2_with fail
   refine hcp.mono ?_
   rintro e Wc ⟨vc,rfl,⟨ac,mc,cc,rfl,hcc⟩,hbc⟩
   have bzc := bzE.below hbc bzE.lt
   clear d0 d1 d2 d3 d4 d5 d6 d7 d8 d9 d10 d11
   go_wp2_with (first | (refine zam (us := [.slice (ac 0) (mc 0) (cc 0),.slice (ac 1) (mc 1) (cc 1),.slice (ac 2) (mc 2) (cc 2),.slice (ac 3) (mc 3) (cc 3),.slice (ac 4) (mc 4) (cc 4),.slice (ac 5) (mc 5) (cc 5),.slice (ac 6) (mc 6) (cc 6),.slice (ac 7) (mc 7) (cc 7),.slice (ac 8) (mc 8) (cc 8),.slice (ac 9) (mc 9) (cc 9),.slice (ac 10) (mc 10) (cc 10),.slice (ac 11) (mc 11) (cc 11)]) (by kernel_rfl) rfl rfl rfl rfl rfl rfl bzc rfl (fun W9 hg9 bx9 => ?_)) | fail)
   have bx9' : StB W9 (w.heap.size + 2) ac mc cc := bx9
   obtain ⟨d0,d1,d2,d3,d4,d5,d6,d7,d8,d9,d10,d11⟩ := bx9'.c12
   refine bodyPost_ret (v := .tuple #[.agg #[.slice (ac 0) (mc 0) (cc 0),.slice (ac 1) (mc 1) (cc 1),.slice (ac 2) (mc 2) (cc 2),.slice (ac 3) (mc 3) (cc 3),.slice (ac 4) (mc 4) (cc 4),.slice (ac 5) (mc 5) (cc 5),.slice (ac 6) (mc 6) (cc 6),.slice (ac 7) (mc 7) (cc 7),.slice (ac 8) (mc 8) (cc 8),.slice (ac 9) (mc 9) (cc 9),.slice (ac 10) (mc 10) (cc 10),.slice (ac 11) (mc 11) (cc 11)],.int .i64 1]) (by simp [results,Tryz.results24,go_sem,loadVar,isAgg,run_underlying Tryz.underlying29,zab (show (Tryz.prog.info? 29).map (·.size) = some 12 by kernel_rfl),loadCellsFrom,Addr.add,d0,d1,d2,d3,d4,d5,d6,d7,d8,d9,d10,d11]) rfl ?_
   have hs9 := hg9.size
   have hsE := qE.size
   have hsc := hbc.size
   have hzl := bzE.lt
   have hne : ∀ k,k < Wc.heap.size → k ≠ w.heap.size + 2 → W9.heap[k]? = Wc.heap[k]? := fun k h1 h2 => hg9.block k h1 (fun e => h2 (by injection e))
   refine ⟨_,T,by rw [H2.out]; rfl,⟨ac,mc,cc,rfl,fun j hj => ((hcc j hj).keep fun k hk => hne k hk.2 (by omega)).weak fun k hk => ⟨by omega,by omega⟩⟩,(qE.trans (hbc.mono hsE)).trans ⟨hg9.os,hg9.tape,hg9.output,hs9,fun k hk => hne k (by omega) (by omega)⟩,H.out⟩
 ·rw [decide_eq_false hok] at hch
  have H2 := Lib.hid (show (zbs T s l).2 = 1 from by unfold zbs; rw [if_neg (fun h => hok h.1)])
  have H := Lib.hid (InT.err (K := K) (show (zbs T s l).2 ≠ 0 by rw [H2.out]; simp))
  clear hok
  go_upto_region 3 with (first | (refine hch.mono ?_; rintro e W2 ⟨rfl,hb2⟩; have qE := q.trans (hb2.mono q.size); have bnE : StB W2 w.heap.size a m c := bn.below hb2 bn.lt; have bzE := bz.below hb2 bz.lt) | fail)
  clear ss d0 d1 d2 d3 d4 d5 d6 d7 d8 d9 d10 d11
  have hcp := zcg W2 (hr0.below qE) hf
  obtain ⟨d0,d1,d2,d3,d4,d5,d6,d7,d8,d9,d10,d11⟩ := bnE.c12
  go_wp2_with fail
  refine hcp.mono ?_
  rintro e Wc ⟨vc,rfl,⟨ac,mc,cc,rfl,hcc⟩,hbc⟩
  have bzc := bzE.below hbc bzE.lt
  clear d0 d1 d2 d3 d4 d5 d6 d7 d8 d9 d10 d11
  go_wp2_with (first | (refine zam (us := [.slice (ac 0) (mc 0) (cc 0),.slice (ac 1) (mc 1) (cc 1),.slice (ac 2) (mc 2) (cc 2),.slice (ac 3) (mc 3) (cc 3),.slice (ac 4) (mc 4) (cc 4),.slice (ac 5) (mc 5) (cc 5),.slice (ac 6) (mc 6) (cc 6),.slice (ac 7) (mc 7) (cc 7),.slice (ac 8) (mc 8) (cc 8),.slice (ac 9) (mc 9) (cc 9),.slice (ac 10) (mc 10) (cc 10),.slice (ac 11) (mc 11) (cc 11)]) (by kernel_rfl) rfl rfl rfl rfl rfl rfl bzc rfl (fun W9 hg9 bx9 => ?_)) | fail)
  have bx9' : StB W9 (w.heap.size + 2) ac mc cc := bx9
  obtain ⟨d0,d1,d2,d3,d4,d5,d6,d7,d8,d9,d10,d11⟩ := bx9'.c12
  refine bodyPost_ret (v := .tuple #[.agg #[.slice (ac 0) (mc 0) (cc 0),.slice (ac 1) (mc 1) (cc 1),.slice (ac 2) (mc 2) (cc 2),.slice (ac 3) (mc 3) (cc 3),.slice (ac 4) (mc 4) (cc 4),.slice (ac 5) (mc 5) (cc 5),.slice (ac 6) (mc 6) (cc 6),.slice (ac 7) (mc 7) (cc 7),.slice (ac 8) (mc 8) (cc 8),.slice (ac 9) (mc 9) (cc 9),.slice (ac 10) (mc 10) (cc 10),.slice (ac 11) (mc 11) (cc 11)],.int .i64 1]) (by simp [results,Tryz.results24,go_sem,loadVar,isAgg,run_underlying Tryz.underlying29,zab (show (Tryz.prog.info? 29).map (·.size) = some 12 by kernel_rfl),loadCellsFrom,Addr.add,d0,d1,d2,d3,d4,d5,d6,d7,d8,d9,d10,d11]) rfl ?_
  have hs9 := hg9.size
  have hsE := qE.size
  have hsc := hbc.size
  have hzl := bzE.lt
  have hne : ∀ k,k < Wc.heap.size → k ≠ w.heap.size + 2 → W9.heap[k]? = Wc.heap[k]? := fun k h1 h2 => hg9.block k h1 (fun e => h2 (by injection e))
  refine ⟨_,T,by rw [H2.out]; rfl,⟨ac,mc,cc,rfl,fun j hj => ((hcc j hj).keep fun k hk => hne k hk.2 (by omega)).weak fun k hk => ⟨by omega,by omega⟩⟩,(qE.trans (hbc.mono hsE)).trans ⟨hg9.os,hg9.tape,hg9.output,hs9,fun k hk => hne k (by omega) (by omega)⟩,H.out⟩
theorem zkr {l:List Ver}(hk:okV l)(s:Int):∃ k,vacV l s=l.drop k:=by
 unfold vacV
 rw [if_pos hk]
 split
 ·split
  ·exact⟨_,rfl⟩
  ·exact⟨_,rfl⟩
 ·exact⟨0,rfl⟩
theorem znn {l:List Ver} {s:Int} {z:Ver}(h:z∈vacV l s):z∈l:=by
 by_cases hk:okV l
 ·obtain⟨k,e⟩:=zkr hk s
  rw [e] at h
  exact List.mem_of_mem_drop h
 ·unfold vacV at h
  rwa [if_neg hk] at h
theorem zp1 {l:List Ver}(hk:okV l) {s:Int}(h:¬(vacV l s).length<l.length):vacV l s=l:=by
 obtain⟨k,e⟩:=zkr hk s
 rw [e,List.length_drop] at h
 rw [e]
 rcases Nat.eq_zero_or_pos k with rfl|hp
 ·rfl
 ·have:l.length=0:=by omega
  rw [List.eq_nil_of_length_eq_zero this];simp
def stV (o:Int) (l:List Pr) (p:Pr):List Pr :=
 if vacV p.chain o=[] then delP l p.key else if (vacV p.chain o).length<p.chain.length then (if p.key.length≤16∧okV (vacV p.chain o) then putP l p.key (vacV p.chain o) else l) else l
def zhm (o:Int) (l ps:List Pr):List Pr:=ps.foldl (stV o) l
theorem zgb (o:Int) (l ps:List Pr) (p:Pr):zhm o l (ps++[p])=stV o (zhm o l ps) p:=by unfold zhm;rw [List.foldl_append];rfl
theorem zqa {o:Int} {l:List Pr} (h:Srt l) (p:Pr):Srt (stV o l p):=by
 unfold stV
 split
 ·exact zrv h
 ·split
  ·split
   ·exact zjw h
   ·exact h
  ·exact h
theorem zkv {o:Int}:∀ {ps l:List Pr},Srt l→Srt (zhm o l ps)
 | [],_,h=>h
 | p::r,l,h=>by
  show Srt (zhm o (stV o l p) r)
  exact zkv (zqa h p)
theorem stV_find {o : Int} {l : List Pr} (h : Srt l) {p : Pr} (hk : okV p.chain) (hp : p.key.length ≤ 16) (hf : zaw l p.key = some p.chain) (k : List UInt8) : zaw (stV o l p) k = if p.key = k then (if vacV p.chain o = [] then none else some (vacV p.chain o)) else zaw l k := by
 unfold stV
 by_cases h0 : vacV p.chain o = []
 ·rw [if_pos h0,if_pos h0,zon]
 ·rw [if_neg h0,if_neg h0]
  by_cases h1 : (vacV p.chain o).length < p.chain.length
  ·rw [if_pos h1,if_pos ⟨hp,(zp2 hk o).1⟩,zg5 h]
  ·rw [if_neg h1,zp1 hk h1]
   by_cases e : p.key = k
   ·rw [if_pos e,← e,hf]
   ·rw [if_neg e]
theorem zio {o:Int}:∀ {ps l:List Pr},Srt l→Srt ps→(∀ p∈ps,okV p.chain∧p.key.length≤16∧zaw l p.key=some p.chain)→∀ k,zaw (zhm o l ps) k=match zaw ps k with | some c=>(if vacV c o=[] then none else some (vacV c o)) | none=>zaw l k
 | [],_,_,_,_,_=>rfl
 | p::r,l,hl,hs,hp,k=>by
  have hs':=List.pairwise_cons.1 hs
  obtain⟨q1,q2,q3⟩:=hp p (by simp)
  have h1:=stV_find (o:=o) hl q1 q2 q3
  have ih:=zio (o:=o) (zqa (o:=o) hl p) hs'.2 (fun q hq=>⟨(hp q (by simp [hq])).1,(hp q (by simp [hq])).2.1,by
   rw [h1,if_neg (fun e=>zf2 (hs'.1 q hq) e)]
   exact (hp q (by simp [hq])).2.2⟩) k
  show zaw (zhm o (stV o l p) r) k=_
  rw [ih,zap,h1]
  by_cases e:p.key=k
  ·rw [if_pos e,if_pos e,zf4 fun q hq=>by rw [← e];exact hs'.1 q hq]
  ·rw [if_neg e,if_neg e]
theorem zjd {l:List Pr} {o:Int} {q:Pr}(h:q∈vacP l o):∃ p∈l,vacV p.chain o≠[]∧q=⟨p.key,vacV p.chain o⟩:=by
 unfold vacP at h
 obtain⟨p,hp,e⟩:=List.mem_filterMap.1 h
 split at e
 ·cases e
 ·rename_i h0
  injection e with e
  exact⟨p,hp,h0,e.symm⟩
theorem znp {o : Int} : ∀ {l : List Pr},Srt l → Srt (vacP l o)
 | [],_ => List.Pairwise.nil
 | p :: r,h => by
  have h' := List.pairwise_cons.1 h
  have ih := znp (o := o) h'.2
  unfold vacP at ih ⊢
  rw [List.filterMap_cons]
  split
  ·exact ih
  ·rename_i b hb
   split at hb
   ·cases hb
   ·injection hb with hb
    subst hb
    refine List.pairwise_cons.2 ⟨fun q hq => ?_,ih⟩
    obtain ⟨p2,hp2,_,rfl⟩ := zjd (show q ∈ vacP r o from hq)
    exact h'.1 p2 hp2
theorem zkt {o:Int}:∀ {l:List Pr},Srt l→∀ k,zaw (vacP l o) k=match zaw l k with | some c=>(if vacV c o=[] then none else some (vacV c o)) | none=>none
 | [],_,_=>rfl
 | p::r,h,k=>by
  have h':=List.pairwise_cons.1 h
  have ih:=zkt (o:=o) h'.2 k
  have hn:∀ k,p.key=k→zaw (vacP r o) k=none:=fun k e=>zf4 fun q hq=>by
   obtain⟨p2,hp2,_,rfl⟩:=zjd hq
   rw [← e];exact h'.1 p2 hp2
  have hc:vacP (p::r) o=if vacV p.chain o=[] then vacP r o else⟨p.key,vacV p.chain o⟩::vacP r o:=by
   unfold vacP
   rw [List.filterMap_cons]
   split<;>rename_i hb<;>split at hb
   ·rw [if_pos ‹_›]
   ·cases hb
   ·cases hb
   ·injection hb with hb
    rw [if_neg ‹_›,hb]
  rw [hc,zap]
  by_cases h0:vacV p.chain o=[]
  ·rw [if_pos h0]
   by_cases e:p.key=k
   ·rw [if_pos e]
    show _=if vacV p.chain o=[] then none else some (vacV p.chain o)
    rw [if_pos h0,hn k e]
   ·rw [if_neg e,ih]
  ·rw [if_neg h0,zap]
   by_cases e:p.key=k
   ·rw [if_pos e,if_pos e]
    show _=if vacV p.chain o=[] then none else some (vacV p.chain o)
    rw [if_neg h0]
   ·rw [if_neg e,if_neg e,ih]
theorem zqb {o:Int} {l:List Pr} (h:okP l):zhm o l l=vacP l o:=by
 obtain⟨h1,h2⟩:=(zco l).1 h
 refine zmk (zkv h2) (znp h2) fun k=>?_
 rw [zio h2 h2 (fun p hp=>⟨(h1 p hp).1,(h1 p hp).2.2,zh7 h2 hp⟩),zkt h2]
 cases zaw l k<;>rfl
theorem vacP_len(l:List Pr)(o:Int):(vacP l o).length≤l.length:=List.length_filterMap_le _ _
attribute [local go_sem] Oper.semAt_some
theorem zjc:zg1 Elt.ver:=fun _ _ _ _ h=>by
 obtain⟨v,e,h1,h2⟩:=h
 exact⟨v,e,zdm h1,h2⟩
theorem zqs:zg1 Elt.pq:=fun _ _ _ _ h=>by
 obtain⟨k,v,e,h1,h2⟩:=h
 exact⟨k,v,e,zdm h1,zdm h2⟩
theorem zjv {α:Type} {E:Elt α}(hE:zg1 E) {S:Nat→Prop} {v:Value} {xs:List α} {X Y:World} {row:Option Nat}(h:RdL E S X v xs)(hg:X.grownBy Y row)(hr:∀ r,row=some r→∃ o:Obj,X.heap[r]?=some o∧o.isCells=false):RdL E S Y v xs :=
 ((zd5 hE h).keep fun k hk=>by
  obtain⟨o,ho,hc⟩:=hk.2
  exact grownBy_keeps_cells hg hr ho hc).weak fun _ hk=>hk.1
theorem GdW.own {n₀ hi:Nat} {y:YEl} {X Y:World} {row:Option Nat} (h:GdW n₀ hi y X) (hg:X.grownBy Y row) (hr:∀ r,row=some r→∃ o:Obj,X.heap[r]?=some o∧o.isCells=false):GdW n₀ hi y Y:=by
 obtain⟨h1,h2,h3,h4,h5⟩:=h
 have hs:=hg.size
 exact⟨(zdm (rdS_own h1 hg hr)).weak fun k hk=>⟨hk.1.1,hk.1.2.1,hk.2⟩,(zjv zjc h2 hg hr).weak fun k hk=>⟨hk.1,by omega⟩,⟨h3.1,by have:=h3.2;omega⟩,h4,h5⟩
theorem GdW.below {n₀ hi:Nat} {y:YEl} {X Y:World} (h:GdW n₀ hi y X) (hb:Below X.heap.size X Y):GdW n₀ hi y Y:=h.own (za1 hb) fun r e=>by cases e
theorem zje {b:Nat} {t:TypeId} {u v r:Value} {A B:World} {row:Option Nat}(h:TriV A b t u v r)(hg:A.grownBy B row)(hr:∀ r,row=some r→∃ o:Obj,A.heap[r]?=some o∧o.isCells=false):TriV B b t u v r :=
 (grownBy_keeps_cells hg hr h rfl).trans h
theorem zm4 {n₀ b hi:Nat} {w:World} (hn:n₀≤w.heap.size) (W:World) (l:Nat) (o o':Obj) (hl:w.heap.size≤l) (h1:W.heap[l]?=some o) (h2:o.isCells=false) (h3:o.isWalk=false):KpB n₀ b hi W (W.putObj l o') :=
 ⟨belowK_b hn W l o o' hl h1 h2 h3,fun j p _ _ e hc=>World.putObj_heap_other (fun e2=>by subst e2;rw [h1] at e;cases e;rw [h2] at hc;cases hc)⟩
def sgNd (n₀:Nat) (n:Nd):SG:=⟨fun w v=>∃ p q r,v=.agg #[p,q,r]∧n₀≤w.heap.size∧RdN (·<n₀) w (.agg #[p,q,r]) n,fun _ _ _⟨p,q,r,e,h1,h2⟩hb=>⟨p,q,r,e,Nat.le_trans h1 hb.size,h2.keep fun k hk=>hb.block k (Nat.lt_of_lt_of_le hk h1)⟩⟩
def sgWi (n₀ B : Nat) (n : Nd) (us : List Value) : SG := ⟨fun w v => ∃ nb xb p q r,v = .func (.func 59) #[] #[.pointer (some ⟨nb,0,none⟩),.pointer (some ⟨xb,0,none⟩)] ∧ B ≤ nb ∧ B ≤ xb ∧ TriV w nb 26 p q r ∧ BoxN w xb 32 us ∧ n₀ ≤ w.heap.size ∧ RdN (· < n₀) w (.agg #[p,q,r]) n,
 fun _ _ _ ⟨nb,xb,p,q,r,e,h1,h2,h3,h4,h5,h6⟩ hb => ⟨nb,xb,p,q,r,e,h1,h2,h3.below hb h3.lt,h4.below hb h4.lt,Nat.le_trans h5 hb.size,h6.keep fun k hk => hb.block k (Nat.lt_of_lt_of_le hk h5)⟩⟩
theorem RdN.tri {S:Nat→Prop} {w:World} {v:Value} {n:Nd} (h:RdN S w v n):∃ p q r,v=.agg #[p,q,r]:=by
 obtain⟨a1,c1,a2,c2,a3,c3,e,_⟩:=h
 exact⟨_,_,_,e⟩
theorem zq0(l:List Pr)(x:Sp)(s:Int):newP l x s=(inP l x).any fun p=>zcr p.chain s:=by
 unfold newP inP
 rw [List.any_filter]
theorem ze4 (w : World) {S S2 : Nat → Prop} {v vx : Value} {T : Sto} {x : Sp} {s : Int} (hr : RdSt S w v T) (hf : fitS T) (hx : RdSp S2 w vx x) : Calls Tryz.prog 22 #[v,vx,.int .i64 s] w fun e w' => e = .returned (.bool (newP (zdo T x.table) x s)) ∧ Below w.heap.size w w' := by
 have hr0 : RdSt (· < w.heap.size) w v T := hr.fit.weak fun _ h => h.2
 have hx0 : RdSp (· < w.heap.size) w vx x := by
  obtain ⟨p1,p2,p3,p4,e,q1,q2,q3⟩ := hx
  exact ⟨p1,p2,p3,p4,e,q1.fit.weak fun _ h => h.2,q2.fit.weak fun _ h => h.2,q3⟩
 obtain ⟨a,m,c,rfl,_⟩ := hr
 obtain ⟨xa,xc,xa2,xc2,rfl,_,_,_⟩ := hx
 obtain ⟨W,hW⟩ : ∃ W,W = (((w.alloc (.cells #[.slice (a 0) (m 0) (c 0),.slice (a 1) (m 1) (c 1),.slice (a 2) (m 2) (c 2),.slice (a 3) (m 3) (c 3),.slice (a 4) (m 4) (c 4),.slice (a 5) (m 5) (c 5),.slice (a 6) (m 6) (c 6),.slice (a 7) (m 7) (c 7),.slice (a 8) (m 8) (c 8),.slice (a 9) (m 9) (c 9),.slice (a 10) (m 10) (c 10),.slice (a 11) (m 11) (c 11)] 29)).alloc (.cells #[.int .i64 x.table,.slice xa x.lo.length xc,.slice xa2 x.hi.length xc2,.bool x.isOpen] 32)).alloc (.cells #[.int .i64 s] 3)).alloc (.cells #[.bool false] 4) := ⟨_,rfl⟩
 have q : Below w.heap.size w W := by rw [hW]; exact ((((Below.refl _ _).alloc (Nat.le_refl _) _).alloc (by simp) _).alloc (by simp; omega) _).alloc (by simp; omega) _
 have hsz : W.heap.size = w.heap.size + 4 := by rw [hW]; simp
 obtain ⟨w1,hw1⟩ : ∃ w1,w1 = w.alloc (.cells #[.slice (a 0) (m 0) (c 0),.slice (a 1) (m 1) (c 1),.slice (a 2) (m 2) (c 2),.slice (a 3) (m 3) (c 3),.slice (a 4) (m 4) (c 4),.slice (a 5) (m 5) (c 5),.slice (a 6) (m 6) (c 6),.slice (a 7) (m 7) (c 7),.slice (a 8) (m 8) (c 8),.slice (a 9) (m 9) (c 9),.slice (a 10) (m 10) (c 10),.slice (a 11) (m 11) (c 11)] 29) := ⟨_,rfl⟩
 obtain ⟨w2,hw2⟩ : ∃ w2,w2 = w1.alloc (.cells #[.int .i64 x.table,.slice xa x.lo.length xc,.slice xa2 x.hi.length xc2,.bool x.isOpen] 32) := ⟨_,rfl⟩
 obtain ⟨w3,hw3⟩ : ∃ w3,w3 = w2.alloc (.cells #[.int .i64 s] 3) := ⟨_,rfl⟩
 have hs1 : w1.heap.size = w.heap.size + 1 := by rw [hw1]; simp
 have hs2 : w2.heap.size = w.heap.size + 2 := by rw [hw2]; simp [hs1]
 have hs3 : w3.heap.size = w.heap.size + 3 := by rw [hw3]; simp [hs2]
 have hW' : W = w3.alloc (.cells #[.bool false] 4) := by rw [hW,hw3,hw2,hw1]
 have k3 : Below w3.heap.size w3 W := by rw [hW']; exact (Below.refl _ _).alloc (Nat.le_refl _) _
 have k2 : Below w2.heap.size w2 W := (show Below w2.heap.size w2 w3 by rw [hw3]; exact (Below.refl _ _).alloc (Nat.le_refl _) _).trans (k3.mono (by omega))
 have k1 : Below w1.heap.size w1 W := (show Below w1.heap.size w1 w2 by rw [hw2]; exact (Below.refl _ _).alloc (Nat.le_refl _) _).trans (k2.mono (by omega))
 have bn : StB W w.heap.size a m c := by
  have h := BoxN.new w 29 (bxS a m c)
  exact BoxN.below (show BoxN w1 w.heap.size 29 (bxS a m c) by rw [hw1]; exact h) k1 (by omega)
 have bx : BoxN W (w.heap.size + 1) 32 [.int .i64 x.table,.slice xa x.lo.length xc,.slice xa2 x.hi.length xc2,.bool x.isOpen] := by
  have h := BoxN.new w1 32 [.int .i64 x.table,.slice xa x.lo.length xc,.slice xa2 x.hi.length xc2,.bool x.isOpen]
  rw [hs1] at h
  exact BoxN.below (show BoxN w2 (w.heap.size + 1) 32 [.int .i64 x.table,.slice xa x.lo.length xc,.slice xa2 x.hi.length xc2,.bool x.isOpen] by rw [hw2]; exact h) k2 (by omega)
 have bs : Boxed W (w.heap.size + 2) 3 (.int .i64 s) := by
  have h := Boxed.new w2 3 (.int .i64 s)
  rw [hs2] at h
  exact (k3.block _ (by omega)).trans (show Boxed w3 (w.heap.size + 2) 3 (.int .i64 s) by rw [hw3]; exact h)
 have bz : Boxed W (w.heap.size + 3) 4 (.bool false) := by
  have h := Boxed.new w3 4 (.bool false)
  rw [hs3] at h
  rw [hW']
  exact h
 have hS := hr0.below q
 clear hW' k1 k2 k3 hs1 hs2 hs3 hw1 hw2 hw3 w1 w2 w3
 refine zbr Tryz.func22 rfl ?_
 simp only [Tryz.ntmps22,List.size_toArray,List.length_cons,List.length_nil,Nat.reduceAdd,Nat.reduceSub,Array.replicate_succ,Array.replicate_zero,List.push_toArray,List.append_toArray,List.nil_append,List.cons_append]
 go_upto_region 1 with (fail)
 rw [← hW]
 clear hW
 refine zbu (by kernel_rfl) (by kernel_rfl) [sgEq (.agg #[.slice (a 0) (m 0) (c 0),.slice (a 1) (m 1) (c 1),.slice (a 2) (m 2) (c 2),.slice (a 3) (m 3) (c 3),.slice (a 4) (m 4) (c 4),.slice (a 5) (m 5) (c 5),.slice (a 6) (m 6) (c 6),.slice (a 7) (m 7) (c 7),.slice (a 8) (m 8) (c 8),.slice (a 9) (m 9) (c 9),.slice (a 10) (m 10) (c 10),.slice (a 11) (m 11) (c 11)]),sgEq (.pointer (some ⟨w.heap.size + 1,0,none⟩)),sgEq (.int .i64 x.table),sgNd w.heap.size (zdt T x.table),sgEq (.agg #[.int .i64 x.table,.slice xa x.lo.length xc,.slice xa2 x.hi.length xc2,.bool x.isOpen]),sgWi w.heap.size W.heap.size (zdt T x.table) [.int .i64 x.table,.slice xa x.lo.length xc,.slice xa2 x.hi.length xc2,.bool x.isOpen]]
  ⟨?o0,?o1,?o2,?o3,?o4,?o5,trivial⟩ ?fin
 case o0 =>
  refine GdOp.plain rfl (fun A vs w' hF hT hb hd => ?_)
  have e1 : A.eval (.tmp 3) = .pointer (some ⟨w.heap.size,0,none⟩) := hF 3 rfl
  exact zcf (us := [.slice (a 0) (m 0) (c 0),.slice (a 1) (m 1) (c 1),.slice (a 2) (m 2) (c 2),.slice (a 3) (m 3) (c 3),.slice (a 4) (m 4) (c 4),.slice (a 5) (m 5) (c 5),.slice (a 6) (m 6) (c 6),.slice (a 7) (m 7) (c 7),.slice (a 8) (m 8) (c 8),.slice (a 9) (m 9) (c 9),.slice (a 10) (m 10) (c 10),.slice (a 11) (m 11) (c 11)]) stS7 rfl e1 (fun j u hj => by rw [Nat.zero_add]; exact (bn.below hb bn.lt).cell hj) ⟨_,rfl,rfl,Below.refl _ _⟩
 case o1 =>
  refine GdOp.plain rfl (fun A vs w' hF hT hb hd => ?_)
  have e1 : A.eval (.tmp 4) = .pointer (some ⟨w.heap.size + 1,0,none⟩) := hF 4 rfl
  exact zai spS7 rfl e1 (by omega) ⟨_,rfl,rfl,Below.refl _ _⟩
 case o2 =>
  refine GdOp.plain rfl (fun A vs w' hF hT hb hd => ?_)
  have e1 : A.eval (.tmp 10) = .pointer (some ⟨w.heap.size + 1,0,none⟩) := (hT 10 1 (by simp) rfl).trans (hd ⟨1,.data⟩ (by simp) rfl)
  exact zfm (k := .i64) rfl e1 (by kernel_rfl) ((bx.below hb bx.lt).cell (i := 0) rfl) ⟨_,rfl,rfl,Below.refl _ _⟩
 case o3 =>
  refine GdOp.plain rfl (fun A vs w' hF hT hb hd => ?_)
  have e1 : A.eval (.tmp 9) = .agg #[.slice (a 0) (m 0) (c 0),.slice (a 1) (m 1) (c 1),.slice (a 2) (m 2) (c 2),.slice (a 3) (m 3) (c 3),.slice (a 4) (m 4) (c 4),.slice (a 5) (m 5) (c 5),.slice (a 6) (m 6) (c 6),.slice (a 7) (m 7) (c 7),.slice (a 8) (m 8) (c 8),.slice (a 9) (m 9) (c 9),.slice (a 10) (m 10) (c 10),.slice (a 11) (m 11) (c 11)] := (hT 9 0 (by simp) rfl).trans (hd ⟨0,.data⟩ (by simp) rfl)
  have e2 : A.eval (.tmp 11) = .int .i64 x.table := (hT 11 2 (by simp) rfl).trans (hd ⟨2,.data⟩ (by simp) rfl)
  refine zak rfl (enters_of Tryz.func32 (by kernel_rfl) rfl) (args := #[.agg #[.slice (a 0) (m 0) (c 0),.slice (a 1) (m 1) (c 1),.slice (a 2) (m 2) (c 2),.slice (a 3) (m 3) (c 3),.slice (a 4) (m 4) (c 4),.slice (a 5) (m 5) (c 5),.slice (a 6) (m 6) (c 6),.slice (a 7) (m 7) (c 7),.slice (a 8) (m 8) (c 8),.slice (a 9) (m 9) (c 9),.slice (a 10) (m 10) (c 10),.slice (a 11) (m 11) (c 11)],.int .i64 x.table]) (by simp only [List.map_toArray,List.map_cons,List.map_nil,e1,e2]) ((zge w' (hS.below hb) hf).mono ?_)
  rintro e w2 ⟨u,rfl,hu,hb2⟩
  obtain ⟨p,q',r,rfl⟩ := hu.tri
  exact ⟨_,rfl,_,rfl,⟨p,q',r,rfl,by have := hb.size; have := hb2.size; have := q.size; omega,hu⟩,hb2⟩
 case o4 =>
  refine GdOp.plain rfl (fun A vs w' hF hT hb hd => ?_)
  have e1 : A.eval (.tmp 4) = .pointer (some ⟨w.heap.size + 1,0,none⟩) := hF 4 rfl
  exact zi7 spS7 rfl e1 ((bx.below hb bx.lt).cell (i := 0) rfl) ((bx.below hb bx.lt).cell (i := 1) rfl) ((bx.below hb bx.lt).cell (i := 2) rfl) ((bx.below hb bx.lt).cell (i := 3) rfl) ⟨_,rfl,rfl,Below.refl _ _⟩
 case o5 =>
  refine GdOp.plain rfl (fun A vs w' hF hT hb hd => ?_)
  obtain ⟨p,q',r,e3,hn3,hr3⟩ := hd ⟨3,.data⟩ (by simp) rfl
  have e1 : A.eval (.tmp 12) = .agg #[p,q',r] := (hT 12 3 (by simp) rfl).trans e3
  have e2 : A.eval (.tmp 13) = .agg #[.int .i64 x.table,.slice xa x.lo.length xc,.slice xa2 x.hi.length xc2,.bool x.isOpen] := (hT 13 4 (by simp) rfl).trans (hd ⟨4,.data⟩ (by simp) rfl)
  refine zak rfl (enters_of Tryz.func36 (by kernel_rfl) rfl) (args := #[.agg #[p,q',r],.agg #[.int .i64 x.table,.slice xa x.lo.length xc,.slice xa2 x.hi.length xc2,.bool x.isOpen]]) (by simp only [List.map_toArray,List.map_cons,List.map_nil,e1,e2]) ((zf9 w' p q' r _ _ _ _).mono ?_)
  rintro e w2 ⟨rfl,rfl⟩
  have hbA : Below w'.heap.size w' (w'.alloc (.cells #[p,q',r] 26)) := (Below.refl _ _).alloc (Nat.le_refl _) _
  have hbB : Below w'.heap.size w' ((w'.alloc (.cells #[p,q',r] 26)).alloc (.cells #[.int .i64 x.table,.slice xa x.lo.length xc,.slice xa2 x.hi.length xc2,.bool x.isOpen] 32)) := hbA.alloc (by simp) _
  have hbC : Below (w'.alloc (.cells #[p,q',r] 26)).heap.size (w'.alloc (.cells #[p,q',r] 26)) ((w'.alloc (.cells #[p,q',r] 26)).alloc (.cells #[.int .i64 x.table,.slice xa x.lo.length xc,.slice xa2 x.hi.length xc2,.bool x.isOpen] 32)) := (Below.refl _ _).alloc (Nat.le_refl _) _
  have hxb := BoxN.new (w'.alloc (.cells #[p,q',r] 26)) 32 [.int .i64 x.table,.slice xa x.lo.length xc,.slice xa2 x.hi.length xc2,.bool x.isOpen]
  rw [World.size_alloc] at hxb
  exact ⟨_,rfl,_,rfl,⟨w'.heap.size,w'.heap.size + 1,p,q',r,rfl,hb.size,by have := hb.size; omega,(TriV.new w' 26 p q' r).below hbC (by simp),hxb,by simp; omega,hr3.keep fun k hk => hbB.block k (by omega)⟩,hbB⟩
 case fin =>
  intro vs w3 hb3 hG
  have e0 : vs 0 = .agg #[.slice (a 0) (m 0) (c 0),.slice (a 1) (m 1) (c 1),.slice (a 2) (m 2) (c 2),.slice (a 3) (m 3) (c 3),.slice (a 4) (m 4) (c 4),.slice (a 5) (m 5) (c 5),.slice (a 6) (m 6) (c 6),.slice (a 7) (m 7) (c 7),.slice (a 8) (m 8) (c 8),.slice (a 9) (m 9) (c 9),.slice (a 10) (m 10) (c 10),.slice (a 11) (m 11) (c 11)] := hG 0 (by decide)
  have e1 : vs 1 = .pointer (some ⟨w.heap.size + 1,0,none⟩) := hG 1 (by decide)
  have e2 : vs 2 = .int .i64 x.table := hG 2 (by decide)
  obtain ⟨p3,q3,r3,e3,_,_⟩ := hG 3 (by decide)
  have e4 : vs 4 = .agg #[.int .i64 x.table,.slice xa x.lo.length xc,.slice xa2 x.hi.length xc2,.bool x.isOpen] := hG 4 (by decide)
  obtain ⟨nb,xb,pn,qn,rn,e5,hnb1,hxb1,hnb,hxb,_,hrn⟩ := hG 5 (by decide)
  simp only [zae,e0,e1,e2,e3,e4,e5]
  clear hG e0 e1 e2 e3 e4 e5
  go_simp
  have hb03 := q.trans (hb3.mono q.size)
  have hst := zeu (w0 := w) (w := w3) (n := zdt T x.table) (x := x) (N := 100000) (b := w.heap.size + 3) (hrn.keep fun k hk => (hb03.block k hk).symm) (zfx hf _) hx0 hb03 hnb rfl hxb (by have := hb3.size; omega) (by omega) (by omega) (Nat.le_trans (List.length_filter_le _ _) (zhu (zfx hf _)))
  have hs3 := hb3.size
  have bs3 : Boxed w3 (w.heap.size + 2) 3 (.int .i64 s) := (hb3.block _ bs.lt).trans bs
  have bz3 : Boxed w3 (w.heap.size + 3) 4 (.bool false) := (hb3.block _ bz.lt).trans bz
  clear bs bz bn bx hS hr0 hx0
  go_wp2_with fail
  refine zef (gf := 59) (lb := #[.pointer (some ⟨nb,0,none⟩),.pointer (some ⟨xb,0,none⟩)]) rfl (enters_of Tryz.func59 (by kernel_rfl) rfl)
   hst (fun h k => h.trans k) (fun i => zm4 (by omega)) (Below.refl _ _) (fun _ => rfl)
   (fun hi (pre : List YEl) W => Below w.heap.size w W ∧ Boxed W (w.heap.size + 2) 3 (.int .i64 s) ∧ Boxed W (w.heap.size + 3) 4 (.bool false) ∧ ∀ y ∈ pre,zcr y.l s = false)
   (fun hi c pre W => c = .ret ∧ Below w.heap.size w W ∧ Boxed W (w.heap.size + 3) 4 (.bool true) ∧ ∃ y ∈ pre,zcr y.l s = true)
   (fun i => OwnFrom.and (zf6 (Nat.le_refl _) (by omega)) (OwnFrom.and zed (OwnFrom.and zed (fun _ _ _ _ hs _ _ => hs))))
   (fun i c => OwnFrom.and (fun _ _ _ _ hs _ _ => hs) (OwnFrom.and (zf6 (Nat.le_refl _) (by omega)) (OwnFrom.and zed (fun _ _ _ _ hs _ _ => hs))))
   (fun i => ⟨hb03,bs3,bz3,fun y hy => by cases hy⟩)
   (fun hi y a' W => a' = { tmps := #[.agg #[.slice (a 0) (m 0) (c 0),.slice (a 1) (m 1) (c 1),.slice (a 2) (m 2) (c 2),.slice (a 3) (m 3) (c 3),.slice (a 4) (m 4) (c 4),.slice (a 5) (m 5) (c 5),.slice (a 6) (m 6) (c 6),.slice (a 7) (m 7) (c 7),.slice (a 8) (m 8) (c 8),.slice (a 9) (m 9) (c 9),.slice (a 10) (m 10) (c 10),.slice (a 11) (m 11) (c 11)],.agg #[.int .i64 x.table,.slice xa x.lo.length xc,.slice xa2 x.hi.length xc2,.bool x.isOpen],.int .i64 s,.pointer (some ⟨w.heap.size,0,none⟩),.pointer (some ⟨w.heap.size + 1,0,none⟩),.pointer (some ⟨w.heap.size + 1 + 1,0,none⟩),.pointer (some ⟨w.heap.size + 1 + 1 + 1,0,none⟩),undef,.slice y.ad2 y.l.length y.c2,.agg #[.slice (a 0) (m 0) (c 0),.slice (a 1) (m 1) (c 1),.slice (a 2) (m 2) (c 2),.slice (a 3) (m 3) (c 3),.slice (a 4) (m 4) (c 4),.slice (a 5) (m 5) (c 5),.slice (a 6) (m 6) (c 6),.slice (a 7) (m 7) (c 7),.slice (a 8) (m 8) (c 8),.slice (a 9) (m 9) (c 9),.slice (a 10) (m 10) (c 10),.slice (a 11) (m 11) (c 11)],.pointer (some ⟨w.heap.size + 1,0,none⟩),.int .i64 x.table,.agg #[p3,q3,r3],.agg #[.int .i64 x.table,.slice xa x.lo.length xc,.slice xa2 x.hi.length xc2,.bool x.isOpen],.func (.func 59) #[] #[.pointer (some ⟨nb,0,none⟩),.pointer (some ⟨xb,0,none⟩)],.slice y.ad y.t.length y.c,.slice y.ad2 y.l.length y.c2,undef,undef,undef],defers := [] } ∧ GdW w3.heap.size hi y W)
   (fun i y a' _ _ _ _ hs hg hr => ⟨hs.1,hs.2.own hg fun r e => (hr r e).2⟩) ?assign ?body ?done ?stop
  case assign =>
   intro i l pre y W K hi hgd hK
   gi_wp2
   refine Eq.mp ?_ (hK _ _ (KeepsFrom.refl _ _) (KpB.refl _ _ _ _) hi ⟨rfl,hgd⟩)
   kernel_rfl
  case body =>
   rintro hi l pre y a' W4 ⟨hb4,bs4,bz4,hpre⟩ ⟨rfl,hgd⟩ hlt
   have c4 := bs4.cell
   have z4 := bz4.cell
   have f4 := bz4.frozen
   have hs4 := hb4.size
   have hcn := CallsIn.inRound l ((callsIn_wide (n := 0)).2 (znh W4 (s := s) hgd.2.1 hgd.2.2.2.2))
   cases hn : zcr y.l s with
   | false =>
    rw [hn] at hcn
    gi_wp2
    refine ⟨trivial,hcn.mono ?_⟩
    clear hcn
    rintro e W5 ⟨rfl,hb5⟩
    gi_wp2
    refine ⟨(KeepsOthers.of_grownBy (za1 hb5) (fun j o e => by cases e)).from _,KpB.of hb5 (by omega),hb4.trans (hb5.mono hs4),(hb5.block _ bs4.lt).trans bs4,(hb5.block _ bz4.lt).trans bz4,fun z hz => ?_⟩
    rcases List.mem_append.1 hz with hz | hz
    ·exact hpre z hz
    ·obtain rfl := List.mem_singleton.1 hz
     exact hn
   | true =>
    rw [hn] at hcn
    gi_wp2
    refine ⟨trivial,hcn.mono ?_⟩
    clear hcn
    rintro e W5 ⟨rfl,hb5⟩
    have bz5 : Boxed W5 (w.heap.size + 3) 4 (.bool false) := (hb5.block _ bz4.lt).trans bz4
    clear z4 f4
    have z4 := bz5.cell
    have f4 := bz5.frozen
    have hk5 : KeepsOthers W4 W5 := KeepsOthers.of_grownBy (za1 hb5) (fun j o e => by cases e)
    gi_wp2
    exact ⟨(hk5.trans (KeepsOthers.setCell _ _ _)).from _,rfl,(hb4.trans (hb5.mono hs4)).setCell (p := ⟨w.heap.size + 3,0,none⟩) (by show w.heap.size ≤ w.heap.size + 3; omega) _,bz5.set _,y,List.mem_append_right _ (List.mem_singleton.2 rfl),hn⟩
  case done =>
   rintro hi D ys W4 hD hys ⟨hb4,bs4,bz4,hpre⟩ hK
   have c4 := bz4.cell
   have f4 := bz4.frozen
   have bz5 := bz4.set (.bool false)
   have hb5 := hb4.setCell (p := ⟨w.heap.size + 3,0,none⟩) (by show w.heap.size ≤ w.heap.size + 3; omega) (.bool false)
   have hK5 : (W4.setCell ⟨w.heap.size + 3,0,none⟩ (.bool false)).heap[D]? = some (.deferred (some [])) := (heap_setCell_other _ ⟨w.heap.size + 3,0,none⟩ D _ (by show D ≠ w.heap.size + 3; omega)).trans hK
   have H := Lib.hid (show newP (zdo T x.table) x s = false from by
    rw [zq0,← zjz,← hys,List.any_map]
    rw [List.any_eq_false]
    intro y hy
    have := hpre y hy
    simpa [YEl.pr] using this)
   clear hys hpre
   go_wp2_with fail
   generalize W4.setCell ⟨w.heap.size + 3,0,none⟩ (.bool false) = W5 at *
   refine ⟨by simp,.inl ⟨_,_,rfl,run_takeDeferred hK5,?_⟩⟩
   have bz6 := bz5.kept (grownBy_putObj' W5 D (Obj.deferred none)) (fun e => by injection e with e; subst e; rw [bz5] at hK5; cases hK5)
   have c6 := bz6.cell
   exact ⟨.bool false,by simp [results,Tryz.results22,go_sem,loadVar,c6],by rw [H.out],hb5.trans (belowK_b (w := w) (Nat.le_refl _) W5 D _ _ (by omega) hK5 rfl rfl)⟩
  case stop =>
   rintro hi D c pre W4 hD ⟨r,hpk⟩ ⟨rfl,hb4,bz4,y,hy,hn⟩ hK
   have c4 := bz4.cell
   have H := Lib.hid (show newP (zdo T x.table) x s = true from by
    rw [zq0,← zjz,hpk,List.any_append,List.any_map,List.any_eq_true.2 ⟨y,hy,by simpa [YEl.pr] using hn⟩]
    rfl)
   clear hpk hy hn
   go_wp2_with fail
   refine ⟨by simp,.inl ⟨_,_,rfl,run_takeDeferred hK,?_⟩⟩
   have bz6 := bz4.kept (grownBy_putObj' W4 D (Obj.deferred none)) (fun e => by injection e with e; subst e; rw [bz4] at hK; cases hK)
   have c6 := bz6.cell
   exact ⟨.bool true,by simp [results,Tryz.results22,go_sem,loadVar,c6],by rw [H.out],hb4.trans (belowK_b (w := w) (Nat.le_refl _) W4 D _ _ (by omega) hK rfl rfl)⟩
end Go.Proofs.YtlpfhgdnmjkngaaGreat
