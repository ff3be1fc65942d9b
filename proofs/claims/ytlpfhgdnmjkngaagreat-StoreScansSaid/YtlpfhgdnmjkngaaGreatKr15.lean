/-
  TEXTS OF ONE PROOF, merged: StP.
-/
import Derived.Test.YtlpfhgdnmjkngaaGreatKr14
namespace Go.Proofs.YtlpfhgdnmjkngaaGreat
open Go.RowKit Go.Shelf
def InQ(R:List Pr×Nat)(m:Nd)(er:Nat):Prop:=er=R.2∧(R.2=0→okN m∧pairsN m=R.1)
def InT (T:Sto) (s:Int) (l:List Wr) (K:Nat) (T':Sto):Prop:=((instI T s l).2≠0→T'=T)∧((instI T s l).2=0→okS T∧∀ j,j<4→okN (T' j)∧pairsN (T' j)=(instI T s l).1 j∧(pairsN (T' j)).length≤60∧∀ p∈pairsN (T' j),p.chain.length≤K+l.length)
def InsEnd (w:World) (T:Sto) (s:Int) (l:List Wr) (K:Nat) (e:Ending) (w':World):Prop:=∃ u T',e=.returned (.tuple #[u,.int .i64 ((instI T s l).2:Nat)])∧RdSt (fun k=>w.heap.size≤k∧k<w'.heap.size) w' u T'∧Below w.heap.size w w'∧InT T s l K T'
theorem InT.err {T:Sto} {s:Int} {l:List Wr} {K:Nat}(h:(instI T s l).2≠0):InT T s l K T:=⟨fun _=>rfl,fun h2=>absurd h2 h⟩
set_option maxRecDepth 100000 in
set_option maxHeartbeats 8000000 in
theorem sInstall_any (w : World) {S S2 : Nat → Prop} {v : Value} {T : Sto} {s : Int} {aw : Option Addr} {nw cw : Nat} {l : List Wr} {K : Nat} (hr : RdSt S w v T) (hf : fitS T) (hi : I64' s) (hl : RdL Elt.wr S2 w (.slice aw nw cw) l)
  (hc : okS T → ∀ j,j < 4 → ∀ p ∈ prN (T j),p.chain.length ≤ K) (hK : K + l.length ≤ 900) : Calls Tryz.prog 24 #[v,.int .i64 s,.slice aw nw cw] w (InsEnd w T s l K) := by
 have hr0 := hr
 obtain ⟨rfl,hlc,hlm⟩ := hl.len
 obtain ⟨a,m,c,rfl,hx⟩ := hr
 obtain ⟨w1,hw1⟩ : ∃ w1,w1 = w.alloc (.cells #[.slice (a 0) (m 0) (c 0),.slice (a 1) (m 1) (c 1),.slice (a 2) (m 2) (c 2),.slice (a 3) (m 3) (c 3),.slice (a 4) (m 4) (c 4),.slice (a 5) (m 5) (c 5),.slice (a 6) (m 6) (c 6),.slice (a 7) (m 7) (c 7),.slice (a 8) (m 8) (c 8),.slice (a 9) (m 9) (c 9),.slice (a 10) (m 10) (c 10),.slice (a 11) (m 11) (c 11)] 29) := ⟨_,rfl⟩
 obtain ⟨w2,hw2⟩ : ∃ w2,w2 = w1.alloc (.cells #[.int .i64 s] 3) := ⟨_,rfl⟩
 obtain ⟨W,hW⟩ : ∃ W,W = w2.alloc (.cells #[.slice none 0 0,.slice none 0 0,.slice none 0 0,.slice none 0 0,.slice none 0 0,.slice none 0 0,.slice none 0 0,.slice none 0 0,.slice none 0 0,.slice none 0 0,.slice none 0 0,.slice none 0 0] 29) := ⟨_,rfl⟩
 have hs1 : w1.heap.size = w.heap.size + 1 := by rw [hw1]; simp
 have hs2 : w2.heap.size = w.heap.size + 2 := by rw [hw2]; simp [hs1]
 have hsW : w.heap.size + 3 = W.heap.size := by rw [hW]; simp [hs2]
 have k2 : Below w2.heap.size w2 W := by rw [hW]; exact (Below.refl _ _).alloc (Nat.le_refl _) _
 have k1 : Below w1.heap.size w1 W := (show Below w1.heap.size w1 w2 by rw [hw2]; exact (Below.refl _ _).alloc (Nat.le_refl _) _).trans (k2.mono (by omega))
 have q : Below w.heap.size w W := (show Below w.heap.size w w1 by rw [hw1]; exact (Below.refl _ _).alloc (Nat.le_refl _) _).trans (k1.mono (by omega))
 have bn : StB W w.heap.size a m c := BoxN.below (show BoxN w1 w.heap.size 29 (bxS a m c) by rw [hw1]; exact BoxN.new _ _ (bxS a m c)) k1 (by omega)
 have bs : Boxed W (w.heap.size + 1) 3 (.int .i64 s) := (k2.block _ (by omega)).trans (show Boxed w2 (w.heap.size + 1) 3 (.int .i64 s) by
  have h := Boxed.new w1 3 (.int .i64 s)
  rw [hs1] at h
  rw [hw2]; exact h)
 have bz : BoxN W (w.heap.size + 2) 29 [.slice none 0 0,.slice none 0 0,.slice none 0 0,.slice none 0 0,.slice none 0 0,.slice none 0 0,.slice none 0 0,.slice none 0 0,.slice none 0 0,.slice none 0 0,.slice none 0 0,.slice none 0 0] := by
  have h := BoxN.new w2 29 [.slice none 0 0,.slice none 0 0,.slice none 0 0,.slice none 0 0,.slice none 0 0,.slice none 0 0,.slice none 0 0,.slice none 0 0,.slice none 0 0,.slice none 0 0,.slice none 0 0,.slice none 0 0]
  rw [hs2] at h
  rw [hW]; exact h
 have hWW : ((w.alloc (.cells #[.slice (a 0) (m 0) (c 0),.slice (a 1) (m 1) (c 1),.slice (a 2) (m 2) (c 2),.slice (a 3) (m 3) (c 3),.slice (a 4) (m 4) (c 4),.slice (a 5) (m 5) (c 5),.slice (a 6) (m 6) (c 6),.slice (a 7) (m 7) (c 7),.slice (a 8) (m 8) (c 8),.slice (a 9) (m 9) (c 9),.slice (a 10) (m 10) (c 10),.slice (a 11) (m 11) (c 11)] 29)).alloc (.cells #[.int .i64 s] 3)).alloc (.cells #[.slice none 0 0,.slice none 0 0,.slice none 0 0,.slice none 0 0,.slice none 0 0,.slice none 0 0,.slice none 0 0,.slice none 0 0,.slice none 0 0,.slice none 0 0,.slice none 0 0,.slice none 0 0] 29) = W := by rw [hW,hw2,hw1]
 clear hs1 hs2 k1 k2 hw1 hw2 hW w1 w2
 have hch := sCheck_any W (hr0.below q) hf
 have ss := bs.cell
 go_enter Tryz.func24,Tryz.ntmps24
 go_upto_region 1 with (fail)
 (try rw [hWW])
 clear hWW
 have d0 := bn.cell (i := 0) rfl
 have d1 := bn.cell (i := 1) rfl
 have d2 := bn.cell (i := 2) rfl
 have d3 := bn.cell (i := 3) rfl
 have d4 := bn.cell (i := 4) rfl
 have d5 := bn.cell (i := 5) rfl
 have d6 := bn.cell (i := 6) rfl
 have d7 := bn.cell (i := 7) rfl
 have d8 := bn.cell (i := 8) rfl
 have d9 := bn.cell (i := 9) rfl
 have d10 := bn.cell (i := 10) rfl
 have d11 := bn.cell (i := 11) rfl
 by_cases hok : okS T
 ·rw [decide_eq_true hok] at hch
  go_wp2_with fail
  refine hch.mono ?_
  rintro e W2 ⟨rfl,hb2⟩
  have bn2 : StB W2 w.heap.size a m c := bn.below hb2 bn.lt
  have bs2 : Boxed W2 (w.heap.size + 1) 3 (.int .i64 s) := (hb2.block _ bs.lt).trans bs
  have bz2 := bz.below hb2 bz.lt
  have q2 := q.trans (hb2.mono q.size)
  clear ss d0 d1 d2 d3 d4 d5 d6 d7 d8 d9 d10 d11
  have ss := bs2.cell
  by_cases h1 : 1 ≤ s
  ·have e1 : decide (s < 1) = false := by simp; omega
   by_cases h2 : s < 2147483648
   ·have e2 : decide (2147483647 < s) = false := by simp; omega
    have hcon := wContains_any W2 ((hl.below q).below hb2) 42 #[] #[.pointer (some ⟨w.heap.size + 1,0,none⟩)] (enters_of Tryz.func42 (by kernel_rfl) rfl) (badW s) (fun V v x hV hx => wrongI_any V hx ((hV.cell (p := ⟨w.heap.size + 1,0,none⟩) bs2.lt).trans bs2.cell) hi)
    cases hbad : l.any (badW s) with
    | true =>
     rw [hbad] at hcon
     have H2 := Lib.hid (show (instI T s l).2 = 1 from by unfold instI; rw [if_neg (fun h => by rw [hbad] at h; cases h.2.2.2)])
     have H := Lib.hid (InT.err (K := K) (show (instI T s l).2 ≠ 0 by rw [H2.out]; simp))
     clear hbad h1 h2 hok
     go_wp2_with fail
     refine hcon.mono ?_
     rintro e W3 ⟨rfl,hb3⟩
     have qE := q2.trans (hb3.mono q2.size)
     have bnE : StB W3 w.heap.size a m c := bn2.below hb3 bn2.lt
     have bzE := bz2.below hb3 bz2.lt
     clear ss
     have hcp := sCopied_any W3 (hr0.below qE) hf
     have d0 := bnE.cell (i := 0) rfl
     have d1 := bnE.cell (i := 1) rfl
     have d2 := bnE.cell (i := 2) rfl
     have d3 := bnE.cell (i := 3) rfl
     have d4 := bnE.cell (i := 4) rfl
     have d5 := bnE.cell (i := 5) rfl
     have d6 := bnE.cell (i := 6) rfl
     have d7 := bnE.cell (i := 7) rfl
     have d8 := bnE.cell (i := 8) rfl
     have d9 := bnE.cell (i := 9) rfl
     have d10 := bnE.cell (i := 10) rfl
     have d11 := bnE.cell (i := 11) rfl
     go_wp2_with fail
     refine hcp.mono ?_
     rintro e Wc ⟨vc,rfl,⟨ac,mc,cc,rfl,hcc⟩,hbc⟩
     have bzc := bzE.below hbc bzE.lt
     clear d0 d1 d2 d3 d4 d5 d6 d7 d8 d9 d10 d11
     go_wp2_with (first | (refine wpList_boxStore (us := [.slice (ac 0) (mc 0) (cc 0),.slice (ac 1) (mc 1) (cc 1),.slice (ac 2) (mc 2) (cc 2),.slice (ac 3) (mc 3) (cc 3),.slice (ac 4) (mc 4) (cc 4),.slice (ac 5) (mc 5) (cc 5),.slice (ac 6) (mc 6) (cc 6),.slice (ac 7) (mc 7) (cc 7),.slice (ac 8) (mc 8) (cc 8),.slice (ac 9) (mc 9) (cc 9),.slice (ac 10) (mc 10) (cc 10),.slice (ac 11) (mc 11) (cc 11)]) (by kernel_rfl) rfl rfl rfl rfl rfl rfl bzc rfl (fun W9 hg9 bx9 => ?_)) | fail)
     have bx9' : StB W9 (w.heap.size + 2) ac mc cc := bx9
     have d0 := bx9'.cell (i := 0) rfl
     have d1 := bx9'.cell (i := 1) rfl
     have d2 := bx9'.cell (i := 2) rfl
     have d3 := bx9'.cell (i := 3) rfl
     have d4 := bx9'.cell (i := 4) rfl
     have d5 := bx9'.cell (i := 5) rfl
     have d6 := bx9'.cell (i := 6) rfl
     have d7 := bx9'.cell (i := 7) rfl
     have d8 := bx9'.cell (i := 8) rfl
     have d9 := bx9'.cell (i := 9) rfl
     have d10 := bx9'.cell (i := 10) rfl
     have d11 := bx9'.cell (i := 11) rfl
     refine bodyPost_ret (v := .tuple #[.agg #[.slice (ac 0) (mc 0) (cc 0),.slice (ac 1) (mc 1) (cc 1),.slice (ac 2) (mc 2) (cc 2),.slice (ac 3) (mc 3) (cc 3),.slice (ac 4) (mc 4) (cc 4),.slice (ac 5) (mc 5) (cc 5),.slice (ac 6) (mc 6) (cc 6),.slice (ac 7) (mc 7) (cc 7),.slice (ac 8) (mc 8) (cc 8),.slice (ac 9) (mc 9) (cc 9),.slice (ac 10) (mc 10) (cc 10),.slice (ac 11) (mc 11) (cc 11)],.int .i64 1]) (by simp [results,Tryz.results24,go_sem,loadVar,isAgg,run_underlying Tryz.underlying29,run_sizeOf' (show (Tryz.prog.info? 29).map (·.size) = some 12 by kernel_rfl),loadCellsFrom,Addr.add,d0,d1,d2,d3,d4,d5,d6,d7,d8,d9,d10,d11]) rfl ?_
     have hs9 := hg9.size
     have hsE := qE.size
     have hsc := hbc.size
     have hzl := bzE.lt
     have hne : ∀ k,k < Wc.heap.size → k ≠ w.heap.size + 2 → W9.heap[k]? = Wc.heap[k]? := fun k h1 h2 => hg9.block k h1 (fun e => h2 (by injection e))
     refine ⟨_,T,by rw [H2.out]; rfl,⟨ac,mc,cc,rfl,fun j hj => ((hcc j hj).keep fun k hk => hne k hk.2 (by omega)).weak fun k hk => ⟨by omega,by omega⟩⟩,(qE.trans (hbc.mono hsE)).trans ⟨hg9.os,hg9.tape,hg9.output,hs9,fun k hk => hne k (by omega) (by omega)⟩,H.out⟩
    | false =>
     rw [hbad] at hcon
     have hII := Lib.hid (show instI T s l = goI (tabS T) (tabS T) s l from by unfold instI; rw [if_pos ⟨hok,h1,h2,hbad⟩])
     have hno : ∀ x ∈ l,badW s x = false := fun x hx => by
      cases hx2 : badW s x with
      | false => rfl
      | true => rw [List.any_eq_true.2 ⟨x,hx,hx2⟩] at hbad; cases hbad
     replace hno := Lib.hid hno
     clear hbad h1 h2
     go_wp2_with fail
     refine hcon.mono ?_
     rintro e W3 ⟨rfl,hb3⟩
     have bn3 : StB W3 w.heap.size a m c := bn2.below hb3 bn2.lt
     have bs3 : Boxed W3 (w.heap.size + 1) 3 (.int .i64 s) := (hb3.block _ bs2.lt).trans bs2
     have bz3 := bz2.below hb3 bz2.lt
     have q3 := q2.trans (hb3.mono q2.size)
     clear ss
     have hcp := sCopied_any W3 (hr0.below q3) hf
     have d0 := bn3.cell (i := 0) rfl
     have d1 := bn3.cell (i := 1) rfl
     have d2 := bn3.cell (i := 2) rfl
     have d3 := bn3.cell (i := 3) rfl
     have d4 := bn3.cell (i := 4) rfl
     have d5 := bn3.cell (i := 5) rfl
     have d6 := bn3.cell (i := 6) rfl
     have d7 := bn3.cell (i := 7) rfl
     have d8 := bn3.cell (i := 8) rfl
     have d9 := bn3.cell (i := 9) rfl
     have d10 := bn3.cell (i := 10) rfl
     have d11 := bn3.cell (i := 11) rfl
     go_wp2_with fail
     refine hcp.mono ?_
     rintro e W4 ⟨v4,rfl,⟨a1,m1,c1,rfl,hcp⟩,hb4⟩
     obtain ⟨W5,hW5⟩ : ∃ W5,W5 = W4.alloc (.cells #[.slice (a1 0) (m1 0) (c1 0),.slice (a1 1) (m1 1) (c1 1),.slice (a1 2) (m1 2) (c1 2),.slice (a1 3) (m1 3) (c1 3),.slice (a1 4) (m1 4) (c1 4),.slice (a1 5) (m1 5) (c1 5),.slice (a1 6) (m1 6) (c1 6),.slice (a1 7) (m1 7) (c1 7),.slice (a1 8) (m1 8) (c1 8),.slice (a1 9) (m1 9) (c1 9),.slice (a1 10) (m1 10) (c1 10),.slice (a1 11) (m1 11) (c1 11)] 29) := ⟨_,rfl⟩
     have b5 : Below W4.heap.size W4 W5 := by rw [hW5]; exact (Below.refl _ _).alloc (Nat.le_refl _) _
     have bx : StB W5 W4.heap.size a1 m1 c1 := by rw [hW5]; exact BoxN.new _ _ (bxS a1 m1 c1)
     have hs4 := hb4.size
     have hs5 := b5.size
     have hs3 : w.heap.size + 3 ≤ W3.heap.size := by have := bz3.lt; omega
     have hb45 := (hb4.mono (Nat.le_refl _)).trans (b5.mono hs4)
     have bn5 : StB W5 w.heap.size a m c := bn3.below hb45 bn3.lt
     have bs5 : Boxed W5 (w.heap.size + 1) 3 (.int .i64 s) := (hb45.block _ bs3.lt).trans bs3
     have bz5 := bz3.below hb45 bz3.lt
     have q5 := q3.trans (hb45.mono q3.size)
     replace hcp : ∀ j,j < 4 → RdN (fun k => w.heap.size + 3 ≤ k ∧ k < W5.heap.size ∧ k ≠ W4.heap.size) W5 (.agg #[.slice (a1 (3 * j)) (m1 (3 * j)) (c1 (3 * j)),.slice (a1 (3 * j + 1)) (m1 (3 * j + 1)) (c1 (3 * j + 1)),.slice (a1 (3 * j + 2)) (m1 (3 * j + 2)) (c1 (3 * j + 2))]) (T j) := fun j hj => ((hcp j hj).keep fun k hk => b5.block k hk.2).weak fun k hk => ⟨by omega,by omega,by omega⟩
     clear d0 d1 d2 d3 d4 d5 d6 d7 d8 d9 d10 d11
     go_upto_region 5 with (fail)
     rw [← hW5]
     clear hW5
     go_wp2_with fail
     go_loopw [37] (fun v wr => ∃ (i : Nat) (a2 : Nat → Option Addr) (m2 c2 : Nat → Nat) (T' : Sto) (Lc : Tb),v = .int .i64 (i : Int) ∧ i ≤ l.length ∧ Below W4.heap.size W5 wr ∧ StB wr W4.heap.size a2 m2 c2 ∧ InS T s l K i T' Lc ∧
      ∀ j,j < 4 → RdN (fun k => w.heap.size + 3 ≤ k ∧ k < wr.heap.size ∧ k ≠ W4.heap.size) wr (.agg #[.slice (a2 (3 * j)) (m2 (3 * j)) (c2 (3 * j)),.slice (a2 (3 * j + 1)) (m2 (3 * j + 1)) (c2 (3 * j + 1)),.slice (a2 (3 * j + 2)) (m2 (3 * j + 2)) (c2 (3 * j + 2))]) (T' j)) (fun v _ => l.length - toN v)
     case atStart => exact ⟨0,a1,m1,c1,T,tabS T,rfl,by omega,Below.refl _ _ |>.mono (by omega),bx,InS.start hok (hc hok),hcp⟩
     case round =>
      obtain ⟨i,a2,m2,c2,T',Lc,rfl,hil,hb,bx,hIS,hA⟩ := hrel
      replace hA := Lib.hid hA
      have hbl := bx.lt
      have qw : Below w.heap.size w wr := q5.trans (hb.mono (by omega))
      have hsz := hb.size
      rcases Nat.lt_or_ge i l.length with hlt0 | hge
      ·have dl : decide ((i : Int) < (l.length : Int)) = true := by simp; omega
       obtain ⟨lb,lo,kA,kC,vA,vC,rfl,_,c0,c1',c2',c3,hk1,hv1,h64⟩ := (hl.below qw).wr i hlt0
       have hbx := bad_no (hno.out _ (List.getElem_mem hlt0))
       obtain ⟨x,hxe⟩ : ∃ x,x = l[i] := ⟨_,rfl⟩
       rw [← hxe] at c0 c1' c2' c3 hk1 hv1 h64 hbx
       replace hxe := Lib.hid hxe
       obtain ⟨ht0,ht4,hb16,hmay⟩ := hbx
       obtain ⟨W7,hW7⟩ : ∃ W7,W7 = wr.alloc (.cells #[.int .i64 x.table,.slice kA x.key.length kC,.bool x.gone,.slice vA x.val.length vC] 51) := ⟨_,rfl⟩
       have b7 : Below wr.heap.size wr W7 := by rw [hW7]; exact (Below.refl _ _).alloc (Nat.le_refl _) _
       have bw : BoxN W7 wr.heap.size 51 [.int .i64 x.table,.slice kA x.key.length kC,.bool x.gone,.slice vA x.val.length vC] := by rw [hW7]; exact BoxN.new _ _ _
       replace bx : StB W7 W4.heap.size a2 m2 c2 := bx.below b7 bx.lt
       have hb57 : Below W4.heap.size W5 W7 := hb.trans (b7.mono (by omega))
       have bs : Boxed W7 (w.heap.size + 1) 3 (.int .i64 s) := (hb57.block _ (by omega)).trans bs5
       have hk7 := hk1.below b7
       have hv7 := hv1.below b7
       have hs7 := b7.size
       go_upto_region 8 with (fail)
       rw [← hW7]
       clear hW7 c0 c1' c2' c3 hk1 hv1
       rcases (show x.table = 0 ∨ x.table = 1 ∨ x.table = 2 ∨ x.table = 3 by omega) with ht | ht | ht | ht
       ·have hn7 : RdN (fun k => w.heap.size + 3 ≤ k) W7 (.agg #[.slice (a2 0) (m2 0) (c2 0),.slice (a2 1) (m2 1) (c2 1),.slice (a2 2) (m2 2) (c2 2)]) (T' 0) := ((hA.out 0 (by omega)).below b7).weak fun k hk => hk.1
        have hokt := hIS.ok 0 (by omega)
        have hlt : (pairsN (T' 0)).length ≤ 60 := by rw [hokt.2]; exact hIS.len 0 (by omega)
        have hct : ∀ p ∈ pairsN (T' 0),p.chain.length ≤ 900 := by rw [hokt.2]; exact fun p hp => by have := hIS.ch 0 (by omega) p hp; omega
        obtain ⟨R,hR⟩ : ∃ R,R = inst1 (Lc 0) x.key (verW x s) := ⟨_,rfl⟩
        have hRe := Lib.hid hR
        clear hR
        refine wp_region_setl (K := fun _ _ => True) (by kernel_rfl) (by kernel_rfl) [10,11,12,13,14,15] (by kernel_rfl) [lEq (.pointer (some ⟨wr.heap.size,0,none⟩)),lEq (.int .i64 x.table),lEq (.pointer (some ⟨W4.heap.size,0,none⟩)),lEq (.pointer (some ⟨W4.heap.size,0,none⟩)),lEq (.agg #[.slice (a2 0) (m2 0) (c2 0),.slice (a2 1) (m2 1) (c2 1),.slice (a2 2) (m2 2) (c2 2)]),lEq (.pointer (some ⟨wr.heap.size,1,none⟩)),lEq (.slice kA x.key.length kC),lEq (.agg #[.int .i64 x.table,.slice kA x.key.length kC,.bool x.gone,.slice vA x.val.length vC]),lEq (.int .i64 s),lEq (.agg #[.int .i64 s,.bool x.gone,.slice vA x.val.length vC]),lAny,lAny,lAny,lAny,lAny,lAny,lEq (.int .i64 (R.2 : Nat))]
         (CbL (bv ([])).toArray 5 (NodeR (InQ R)) zNode NodeB (KeyW ([])) (VerW ([])) W7) (CbL.more (stays (InQ R) ([]) ([]))) (CbS.start _)
         ⟨?o0,?o1,?o2,?o3,?o4,?o5,?o6,?o7,?o8,?o9,?o10,?o11,?o12,?o13,?o14,?o15,?o16,trivial⟩ ?fin
        case o0 =>
         refine StOp.free rfl (by kernel_rfl) (fun A va D w' hF hT hN hE hd hu hg => ?_)
         have e1 : A.eval (.tmp 11) = .pointer (some ⟨wr.heap.size,0,none⟩) := hF 11 rfl
         exact wp_fieldN wrS rfl e1 (by omega) ⟨_,rfl,rfl,Below.refl _ _⟩
        case o1 =>
         refine StOp.free rfl (by kernel_rfl) (fun A va D w' hF hT hN hE hd hu hg => ?_)
         have e1 : A.eval (.tmp 42) = .pointer (some ⟨wr.heap.size,0,none⟩) := (hT 42 0 (by simp) rfl).trans (hg ⟨0,.data⟩ (by simp) rfl rfl)
         exact wp_ld_int (k := .i64) rfl e1 (by kernel_rfl) ((bw.below (CbL.below hE) bw.lt).cell (i := 0) rfl) ⟨_,rfl,rfl,Below.refl _ _⟩
        case o2 =>
         refine StOp.free rfl (by kernel_rfl) (fun A va D w' hF hT hN hE hd hu hg => ?_)
         have e1 : A.eval (.tmp 9) = .pointer (some ⟨W4.heap.size,0,none⟩) := hF 9 rfl
         exact wp_fieldQ stF7 rfl e1 ⟨_,rfl,rfl,Below.refl _ _⟩
        case o3 =>
         refine StOp.free rfl (by kernel_rfl) (fun A va D w' hF hT hN hE hd hu hg => ?_)
         have e1 : A.eval (.tmp 44) = .pointer (some ⟨W4.heap.size,0,none⟩) := (hT 44 2 (by simp) rfl).trans (hg ⟨2,.data⟩ (by simp) rfl rfl)
         have e2 : A.eval (.tmp 43) = .int .i64 x.table := (hT 43 1 (by simp) rfl).trans (hg ⟨1,.data⟩ (by simp) rfl rfl)
         exact wp_ixP taP (k := 0) rfl e1 e2 (by omega) (by omega) ⟨_,rfl,rfl,Below.refl _ _⟩
        case o4 =>
         refine StOp.free rfl (by kernel_rfl) (fun A va D w' hF hT hN hE hd hu hg => ?_)
         have e1 : A.eval (.tmp 45) = .pointer (some ⟨W4.heap.size,0,none⟩) := (hT 45 3 (by simp) rfl).trans (hg ⟨3,.data⟩ (by simp) rfl rfl)
         exact wp_load3 nodeS7 rfl e1 ((bx.below (CbL.below hE) bx.lt).cell (i := 0) rfl) ((bx.below (CbL.below hE) bx.lt).cell (i := 1) rfl) ((bx.below (CbL.below hE) bx.lt).cell (i := 2) rfl) ⟨_,rfl,rfl,Below.refl _ _⟩
        case o5 =>
         refine StOp.free rfl (by kernel_rfl) (fun A va D w' hF hT hN hE hd hu hg => ?_)
         have e1 : A.eval (.tmp 11) = .pointer (some ⟨wr.heap.size,0,none⟩) := hF 11 rfl
         exact wp_fieldN wrS rfl e1 (by omega) ⟨_,rfl,rfl,Below.refl _ _⟩
        case o6 =>
         refine StOp.free rfl (by kernel_rfl) (fun A va D w' hF hT hN hE hd hu hg => ?_)
         have e1 : A.eval (.tmp 47) = .pointer (some ⟨wr.heap.size,1,none⟩) := (hT 47 5 (by simp) rfl).trans (hg ⟨5,.data⟩ (by simp) rfl rfl)
         exact wp_ld_slice (e := 5) rfl e1 (by kernel_rfl) ((bw.below (CbL.below hE) bw.lt).cell (i := 1) rfl) ⟨_,rfl,rfl,Below.refl _ _⟩
        case o7 =>
         refine StOp.free rfl (by kernel_rfl) (fun A va D w' hF hT hN hE hd hu hg => ?_)
         have e1 : A.eval (.tmp 11) = .pointer (some ⟨wr.heap.size,0,none⟩) := hF 11 rfl
         exact wp_load4 wrS rfl e1 ((bw.below (CbL.below hE) bw.lt).cell (i := 0) rfl) ((bw.below (CbL.below hE) bw.lt).cell (i := 1) rfl) ((bw.below (CbL.below hE) bw.lt).cell (i := 2) rfl) ((bw.below (CbL.below hE) bw.lt).cell (i := 3) rfl) ⟨_,rfl,rfl,Below.refl _ _⟩
        case o8 =>
         refine StOp.free rfl (by kernel_rfl) (fun A va D w' hF hT hN hE hd hu hg => ?_)
         have e1 : A.eval (.tmp 4) = .pointer (some ⟨w.heap.size + 1,0,none⟩) := hF 4 rfl
         exact wp_ld_int (k := .i64) rfl e1 (by kernel_rfl) (((CbL.below hE).cell (p := ⟨w.heap.size + 1,0,none⟩) bs.lt).trans bs.cell) ⟨_,rfl,rfl,Below.refl _ _⟩
        case o9 =>
         refine StOp.free rfl (by kernel_rfl) (fun A va D w' hF hT hN hE hd hu hg => ?_)
         have e1 : A.eval (.tmp 49) = .agg #[.int .i64 x.table,.slice kA x.key.length kC,.bool x.gone,.slice vA x.val.length vC] := (hT 49 7 (by simp) rfl).trans (hg ⟨7,.data⟩ (by simp) rfl rfl)
         have e2 : A.eval (.tmp 50) = .int .i64 s := (hT 50 8 (by simp) rfl).trans (hg ⟨8,.data⟩ (by simp) rfl rfl)
         refine wp_callFn rfl (enters_of Tryz.func45 (by kernel_rfl) rfl) (args := #[.agg #[.int .i64 x.table,.slice kA x.key.length kC,.bool x.gone,.slice vA x.val.length vC],.int .i64 s]) (by simp only [List.map_toArray,List.map_cons,List.map_nil,e1,e2]) ((version_any w' x kA vA kC vC s).mono ?_)
         rintro e w2 ⟨rfl,hb2⟩
         exact ⟨_,rfl,_,rfl,rfl,hb2⟩
        case o10 =>
         refine StOp.set rfl (by kernel_rfl) (fun A va D w' hF hT hN hE hd hu hg => ?_)
         have e1 : A.eval (.tmp 46) = .agg #[.slice (a2 0) (m2 0) (c2 0),.slice (a2 1) (m2 1) (c2 1),.slice (a2 2) (m2 2) (c2 2)] := (hT 46 4 (by simp) rfl).trans (hg ⟨4,.data⟩ (by simp) rfl rfl)
         have e2 : A.eval (.tmp 48) = .slice kA x.key.length kC := (hT 48 6 (by simp) rfl).trans (hg ⟨6,.data⟩ (by simp) rfl rfl)
         have e3 : A.eval (.tmp 51) = .agg #[.int .i64 s,.bool x.gone,.slice vA x.val.length vC] := (hT 51 9 (by simp) rfl).trans (hg ⟨9,.data⟩ (by simp) rfl rfl)
         have hE2 := hE
         simp only [told,List.map_cons,List.map_nil,hN,Bool.false_eq_true,if_false] at hE2
         have hBE := hE2.be
         refine wp_callFn rfl (enters_of Tryz.func48 (by kernel_rfl) rfl) (args := #[.agg #[.slice (a2 0) (m2 0) (c2 0),.slice (a2 1) (m2 1) (c2 1),.slice (a2 2) (m2 2) (c2 2)],.slice kA x.key.length kC,.agg #[.int .i64 s,.bool x.gone,.slice vA x.val.length vC]]) (by simp only [List.map_toArray,List.map_cons,List.map_nil,e1,e2,e3]) ((sInstd_any w' (hn7.below hBE) hokt.1 hlt hct (hk7.below hBE) hb16 (x := verW x s) (hv7.below hBE) hmay).mono ?_)
         rintro e w2 ⟨u,mm,rfl,hrd,hb2,hz⟩
         rw [hokt.2,← hRe.out] at hz ⊢
         have h5 := CbS.call (stays (InQ R) ([]) ([])) hE2 (by simp) hb2 (v := u) (e := .int .i64 (R.2 : Nat)) ⟨mm,_,rfl,⟨rfl,hz⟩,hrd⟩
         exact ⟨_,rfl,_,rfl,by simpa [CbL,told,don,upd,bv_length] using h5,trivial⟩
        case o11 =>
         refine StOp.set rfl (by kernel_rfl) (fun A va D w' hF hT hN hE hd hu hg => ?_)
         have x1 : A.eval (.tmp 52) = va 10 := hT 52 10 (by simp) rfl
         have hE2 := hE
         have d10 : D 10 = true := hd ⟨10,.data⟩ (by simp) rfl
         simp only [told,List.map_cons,List.map_nil,hN,d10,Bool.false_eq_true,if_false,if_true] at hE2
         have h5 := CbS.move hE2
         exact BigFrame.wp_move _ rfl ⟨_,rfl,by rw [x1]; simpa [CbL,told,don,upd,bv_length,d10] using h5,trivial⟩
        case o12 =>
         refine StOp.set rfl (by kernel_rfl) (fun A va D w' hF hT hN hE hd hu hg => ?_)
         have x1 : A.eval (.tmp 41) = va 11 := hT 41 11 (by simp) rfl
         have hE2 := hE
         have d11 : D 11 = true := hd ⟨11,.data⟩ (by simp) rfl
         simp only [told,List.map_cons,List.map_nil,hN,d11,Bool.false_eq_true,if_false,if_true] at hE2
         obtain ⟨v,e,em⟩ := CbS.tup hE2
         rw [em] at hE2
         have h5 := CbS.ex0 hE2
         exact wp_ex rfl (x1.trans em) rfl ⟨_,rfl,by simpa [CbL,told,don,upd,d11,em] using h5,trivial⟩
        case o13 =>
         refine StOp.set rfl (by kernel_rfl) (fun A va D w' hF hT hN hE hd hu hg => ?_)
         have x1 : A.eval (.tmp 41) = va 11 := hT 41 11 (by simp) rfl
         have hE2 := hE
         have d11 : D 11 = true := hd ⟨11,.data⟩ (by simp) rfl
         simp only [told,List.map_cons,List.map_nil,hN,d11,Bool.false_eq_true,if_false,if_true] at hE2
         obtain ⟨v,e,em⟩ := CbS.tup hE2
         rw [em] at hE2
         have h5 := CbS.ex1 hE2
         exact wp_ex rfl (x1.trans em) rfl ⟨_,rfl,by simpa [CbL,told,don,upd,d11,em] using h5,trivial⟩
        case o14 =>
         refine StOp.set rfl (by kernel_rfl) (fun A va D w' hF hT hN hE hd hu hg => ?_)
         have hE2 := hE
         simp only [told,List.map_cons,List.map_nil,hN,Bool.false_eq_true,if_false] at hE2
         refine wp_allocN rfl (fun w2 hb2 hz => ⟨_,rfl,?_,trivial⟩)
         have h5 := CbS.alloc (stays (InQ R) ([]) ([])) hE2 hb2 hz
         simpa [CbL,told,don,upd,bv_length] using h5
        case o15 =>
         refine StOp.set rfl (by kernel_rfl) (fun A va D w' hF hT hN hE hd hu hg => ?_)
         have x1 : A.eval (.tmp 12) = va 14 := hT 12 14 (by simp) rfl
         have x2 : A.eval (.tmp 53) = va 12 := hT 53 12 (by simp) rfl
         have hE2 := hE
         have d14 : D 14 = true := hd ⟨14,.data⟩ (by simp) rfl
         have d12 : D 12 = true := hd ⟨12,.data⟩ (by simp) rfl
         simp only [told,List.map_cons,List.map_nil,hN,d14,d12,Bool.false_eq_true,if_false,if_true] at hE2
         obtain ⟨b,eb,hb0⟩ := CbS.box hE2
         obtain ⟨e,hm⟩ := hE2.mx _ rfl
         obtain ⟨v,e2,ec,n2,er,_,_,hrd⟩ := hE2.rr _ (hE2.mv _ hm)
         obtain ⟨A1,B1,A2,B2,A3,B3,ev,_⟩ := id hrd
         injection ec with ec
         injection ec with ec
         injection ec with ec _
         rw [← ec] at ev
         refine wp_storeT rfl (x1.trans eb) (x2.trans ev) rfl rfl rfl hb0 (fun w2 hg2 ht2 => ⟨_,rfl,?_,trivial⟩)
         rw [eb] at hE2
         have h5 := CbS.sto (u := undef) (stays (InQ R) ([]) ([])) hE2 hg2 ⟨_,_,_,ev,ht2⟩
         simpa [CbL,told,don,upd,d14,d12,eb] using h5
        case o16 =>
         refine StOp.free rfl (by kernel_rfl) (fun A va D w' hF hT hN hE hd hu hg => ?_)
         have x1 : A.eval (.tmp 54) = va 13 := hT 54 13 (by simp) rfl
         have hE2 := hE
         have d13 : D 13 = true := hd ⟨13,.data⟩ (by simp) rfl
         simp only [told,List.map_cons,List.map_nil,d13,if_true] at hE2
         have ee := CbS.err hE2 (fun n er hQ => hQ.1)
         exact BigFrame.wp_assign _ rfl ⟨_,rfl,x1.trans ee,Below.refl _ _⟩
        case fin =>
         intro vs1 W1 hE hG
         obtain ⟨bM,ez,em,ec,hbM,hBx,hR,hbE⟩ := CbS.done (nodeR _) hE (by simp)
         obtain ⟨nM,er,ee,hQ,hM⟩ := hR
         have her : er = R.2 := hQ.1
         rw [her] at ee hQ
         clear her
         obtain ⟨x1,y1,z1,ev,hTM⟩ := hBx
         have g0 : vs1 0 = .pointer (some ⟨wr.heap.size,0,none⟩) := hG 0 (by decide) rfl
         have g1 : vs1 1 = .int .i64 x.table := hG 1 (by decide) rfl
         have g2 : vs1 2 = .pointer (some ⟨W4.heap.size,0,none⟩) := hG 2 (by decide) rfl
         have g3 : vs1 3 = .pointer (some ⟨W4.heap.size,0,none⟩) := hG 3 (by decide) rfl
         have g4 : vs1 4 = .agg #[.slice (a2 0) (m2 0) (c2 0),.slice (a2 1) (m2 1) (c2 1),.slice (a2 2) (m2 2) (c2 2)] := hG 4 (by decide) rfl
         have g5 : vs1 5 = .pointer (some ⟨wr.heap.size,1,none⟩) := hG 5 (by decide) rfl
         have g6 : vs1 6 = .slice kA x.key.length kC := hG 6 (by decide) rfl
         have g7 : vs1 7 = .agg #[.int .i64 x.table,.slice kA x.key.length kC,.bool x.gone,.slice vA x.val.length vC] := hG 7 (by decide) rfl
         have g8 : vs1 8 = .int .i64 s := hG 8 (by decide) rfl
         have g9 : vs1 9 = .agg #[.int .i64 s,.bool x.gone,.slice vA x.val.length vC] := hG 9 (by decide) rfl
         have g16 : vs1 16 = .int .i64 (R.2 : Nat) := hG 16 (by decide) rfl
         simp only [putAll,g0,g1,g2,g3,g4,g5,g6,g7,g8,g9,g16,ec,em,ev,ee,ez]
         rw [ev] at hM
         obtain ⟨A1,B1,A3,B3,A5,B5,e3,_,_,_⟩ := id hM
         injection e3 with e3
         injection e3 with e3
         injection e3 with e4 e3
         injection e3 with e5 e3
         injection e3 with e6 _
         subst e4 e5 e6
         clear hE hG ec em ev ee ez g0 g1 g2 g3 g4 g5 g6 g7 g8 g9 g16
         have hs1 := hbE.size
         go_simp
         have q1 : Below w.heap.size w W1 := (qw.trans (b7.mono (by omega))).trans (hbE.mono (by omega))
         have ht' : x.table.toNat = 0 := by rw [ht]; rfl
         by_cases hz : R.2 = 0
         ·have dz : ((R.2 : Int) != 0) = false := by rw [hz]; rfl
          have hmM := hQ.2 hz
          have hst := hIS.step hlt0 (hno.out _ (List.getElem_mem hlt0)) (by rw [← hxe.out,ht',← hRe.out]; exact hz) (m := nM) (by rw [← hxe.out,ht',← hRe.out]; exact hmM)
          rw [← hxe.out,ht',← hRe.out] at hst
          replace hst := Lib.hid hst
          have bx1 : StB W1 W4.heap.size a2 m2 c2 := bx.below hbE bx.lt
          have bw1 := bw.below hbE bw.lt
          have y0 := hTM.cell0
          have y1 := hTM.cell1
          have y2 := hTM.cell2
          have x0 := bw1.cell (i := 0) rfl
          have hbl := bx.lt
          have hA1 : ∀ j,j < 4 → RdN (fun k => w.heap.size + 3 ≤ k ∧ k < wr.heap.size ∧ k ≠ W4.heap.size) W1 (.agg #[.slice (a2 (3 * j)) (m2 (3 * j)) (c2 (3 * j)),.slice (a2 (3 * j + 1)) (m2 (3 * j + 1)) (c2 (3 * j + 1)),.slice (a2 (3 * j + 2)) (m2 (3 * j + 2)) (c2 (3 * j + 2))]) (T' j) := fun j hj => (hA.out j hj).keep fun k hk => (hbE.block k (by omega)).trans (b7.block k hk.2.1)
          replace hA1 := Lib.hid hA1
          have hM1 := Lib.hid (hM.weak (S' := fun k => w.heap.size + 3 ≤ k ∧ k < W1.heap.size ∧ k ≠ W4.heap.size) fun k hk => by
           have h1 := hk.1
           have h2 := hk.2.1
           exact ⟨by omega,h2,by omega⟩)
          replace hz := Lib.hid hz
          replace hmM := Lib.hid hmM
          clear hM hQ
          go_wp2_with (first | (refine wpList_ixP taP 0 rfl rfl rfl rfl (by omega) (by omega) ?_) | (refine wpList_boxPut (us := [.slice A1 nM.keys.length B1,.slice A3 nM.chains.length B3,.slice A5 nM.kids.length B5]) (by kernel_rfl) rfl rfl rfl rfl rfl rfl bx1 (by show _ ≤ 12; simp) (fun W9 hg9 bx9 => ?_)) | fail)
          go_roundw
          case rel =>
           have hs9 := hg9.size
           have hk9 : ∀ k,k < W1.heap.size → k ≠ W4.heap.size → W9.heap[k]? = W1.heap[k]? := fun k h1 h2 => hg9.block k h1 (fun e => h2 (by injection e))
           have hb9 : Below W4.heap.size W1 W9 := ⟨hg9.os,hg9.tape,hg9.output,hs9,fun k hk => hk9 k (by omega) (by omega)⟩
           refine ⟨i + 1,fun j => if j = 0 then A1 else if j = 1 then A3 else if j = 2 then A5 else a2 j,fun j => if j = 0 then nM.keys.length else if j = 1 then nM.chains.length else if j = 2 then nM.kids.length else m2 j,fun j => if j = 0 then B1 else if j = 1 then B3 else if j = 2 then B5 else c2 j,_,_,by go_num,by omega,((hb.trans (b7.mono (by omega))).trans (hbE.mono (by omega))).trans hb9,bx9,hst.out,fun j hj => ?_⟩
           match j,hj with
           | 0,_ => exact ((hM1.out.keep fun k hk => hk9 k hk.2.1 hk.2.2).weak fun k hk => ⟨hk.1,by omega,hk.2.2⟩)
           | 1,_ => exact (((hA1.out 1 (by omega)).keep fun k hk => hk9 k (by omega) hk.2.2).weak fun k hk => ⟨hk.1,by omega,hk.2.2⟩)
           | 2,_ => exact (((hA1.out 2 (by omega)).keep fun k hk => hk9 k (by omega) hk.2.2).weak fun k hk => ⟨hk.1,by omega,hk.2.2⟩)
           | 3,_ => exact (((hA1.out 3 (by omega)).keep fun k hk => hk9 k (by omega) hk.2.2).weak fun k hk => ⟨hk.1,by omega,hk.2.2⟩)
           | j + 4,hj => omega
          case measure => simp [toN]; omega
         ·have dz : ((R.2 : Int) != 0) = true := by rw [bne_iff_ne]; omega
          have H2 := Lib.hid (show (instI T s l).2 = R.2 from by
           have h := hIS.err hlt0 (by rw [← hxe.out,ht',← hRe.out]; exact hz)
           rw [← hxe.out,ht',← hRe.out] at h
           rw [hII.out,h])
          have H := Lib.hid (InT.err (K := K) (show (instI T s l).2 ≠ 0 by rw [H2.out]; exact hz))
          have hbB : Below W4.heap.size W5 W1 := (hb.trans (b7.mono (by omega))).trans (hbE.mono (by omega))
          have qE := q1
          have bnE : StB W1 w.heap.size a m c := (hbB.block _ (by omega)).trans bn5
          have bzE : BoxN W1 (w.heap.size + 2) 29 [.slice none 0 0,.slice none 0 0,.slice none 0 0,.slice none 0 0,.slice none 0 0,.slice none 0 0,.slice none 0 0,.slice none 0 0,.slice none 0 0,.slice none 0 0,.slice none 0 0,.slice none 0 0] := (hbB.block _ (by have := bz5.lt; omega)).trans bz5
          replace hz := Lib.hid hz
          go_upto_region 10 with (fail)
          have hcp := sCopied_any W1 (hr0.below qE) hf
          have d0 := bnE.cell (i := 0) rfl
          have d1 := bnE.cell (i := 1) rfl
          have d2 := bnE.cell (i := 2) rfl
          have d3 := bnE.cell (i := 3) rfl
          have d4 := bnE.cell (i := 4) rfl
          have d5 := bnE.cell (i := 5) rfl
          have d6 := bnE.cell (i := 6) rfl
          have d7 := bnE.cell (i := 7) rfl
          have d8 := bnE.cell (i := 8) rfl
          have d9 := bnE.cell (i := 9) rfl
          have d10 := bnE.cell (i := 10) rfl
          have d11 := bnE.cell (i := 11) rfl
          go_wp2_with fail
          refine hcp.mono ?_
          rintro e Wc ⟨vc,rfl,⟨ac,mc,cc,rfl,hcc⟩,hbc⟩
          have bzc := bzE.below hbc bzE.lt
          clear d0 d1 d2 d3 d4 d5 d6 d7 d8 d9 d10 d11
          go_wp2_with (first | (refine wpList_boxStore (us := [.slice (ac 0) (mc 0) (cc 0),.slice (ac 1) (mc 1) (cc 1),.slice (ac 2) (mc 2) (cc 2),.slice (ac 3) (mc 3) (cc 3),.slice (ac 4) (mc 4) (cc 4),.slice (ac 5) (mc 5) (cc 5),.slice (ac 6) (mc 6) (cc 6),.slice (ac 7) (mc 7) (cc 7),.slice (ac 8) (mc 8) (cc 8),.slice (ac 9) (mc 9) (cc 9),.slice (ac 10) (mc 10) (cc 10),.slice (ac 11) (mc 11) (cc 11)]) (by kernel_rfl) rfl rfl rfl rfl rfl rfl bzc rfl (fun W9 hg9 bx9 => ?_)) | fail)
          have bx9' : StB W9 (w.heap.size + 2) ac mc cc := bx9
          have d0 := bx9'.cell (i := 0) rfl
          have d1 := bx9'.cell (i := 1) rfl
          have d2 := bx9'.cell (i := 2) rfl
          have d3 := bx9'.cell (i := 3) rfl
          have d4 := bx9'.cell (i := 4) rfl
          have d5 := bx9'.cell (i := 5) rfl
          have d6 := bx9'.cell (i := 6) rfl
          have d7 := bx9'.cell (i := 7) rfl
          have d8 := bx9'.cell (i := 8) rfl
          have d9 := bx9'.cell (i := 9) rfl
          have d10 := bx9'.cell (i := 10) rfl
          have d11 := bx9'.cell (i := 11) rfl
          refine bodyPost_ret (v := .tuple #[.agg #[.slice (ac 0) (mc 0) (cc 0),.slice (ac 1) (mc 1) (cc 1),.slice (ac 2) (mc 2) (cc 2),.slice (ac 3) (mc 3) (cc 3),.slice (ac 4) (mc 4) (cc 4),.slice (ac 5) (mc 5) (cc 5),.slice (ac 6) (mc 6) (cc 6),.slice (ac 7) (mc 7) (cc 7),.slice (ac 8) (mc 8) (cc 8),.slice (ac 9) (mc 9) (cc 9),.slice (ac 10) (mc 10) (cc 10),.slice (ac 11) (mc 11) (cc 11)],.int .i64 ((R.2 : Nat) : Int)]) (by simp [results,Tryz.results24,go_sem,loadVar,isAgg,run_underlying Tryz.underlying29,run_sizeOf' (show (Tryz.prog.info? 29).map (·.size) = some 12 by kernel_rfl),loadCellsFrom,Addr.add,d0,d1,d2,d3,d4,d5,d6,d7,d8,d9,d10,d11]) rfl ?_
          have hs9 := hg9.size
          have hsE := qE.size
          have hsc := hbc.size
          have hzl := bzE.lt
          have hne : ∀ k,k < Wc.heap.size → k ≠ w.heap.size + 2 → W9.heap[k]? = Wc.heap[k]? := fun k h1 h2 => hg9.block k h1 (fun e => h2 (by injection e))
          refine ⟨_,T,by rw [H2.out],⟨ac,mc,cc,rfl,fun j hj => ((hcc j hj).keep fun k hk => hne k hk.2 (by omega)).weak fun k hk => ⟨by omega,by omega⟩⟩,(qE.trans (hbc.mono hsE)).trans ⟨hg9.os,hg9.tape,hg9.output,hs9,fun k hk => hne k (by omega) (by omega)⟩,H.out⟩
       ·have hn7 : RdN (fun k => w.heap.size + 3 ≤ k) W7 (.agg #[.slice (a2 3) (m2 3) (c2 3),.slice (a2 4) (m2 4) (c2 4),.slice (a2 5) (m2 5) (c2 5)]) (T' 1) := ((hA.out 1 (by omega)).below b7).weak fun k hk => hk.1
        have hokt := hIS.ok 1 (by omega)
        have hlt : (pairsN (T' 1)).length ≤ 60 := by rw [hokt.2]; exact hIS.len 1 (by omega)
        have hct : ∀ p ∈ pairsN (T' 1),p.chain.length ≤ 900 := by rw [hokt.2]; exact fun p hp => by have := hIS.ch 1 (by omega) p hp; omega
        obtain ⟨R,hR⟩ : ∃ R,R = inst1 (Lc 1) x.key (verW x s) := ⟨_,rfl⟩
        have hRe := Lib.hid hR
        clear hR
        refine wp_region_setl (K := fun _ _ => True) (by kernel_rfl) (by kernel_rfl) [10,11,12,13,14,15] (by kernel_rfl) [lEq (.pointer (some ⟨wr.heap.size,0,none⟩)),lEq (.int .i64 x.table),lEq (.pointer (some ⟨W4.heap.size,0,none⟩)),lEq (.pointer (some ⟨W4.heap.size,3,none⟩)),lEq (.agg #[.slice (a2 3) (m2 3) (c2 3),.slice (a2 4) (m2 4) (c2 4),.slice (a2 5) (m2 5) (c2 5)]),lEq (.pointer (some ⟨wr.heap.size,1,none⟩)),lEq (.slice kA x.key.length kC),lEq (.agg #[.int .i64 x.table,.slice kA x.key.length kC,.bool x.gone,.slice vA x.val.length vC]),lEq (.int .i64 s),lEq (.agg #[.int .i64 s,.bool x.gone,.slice vA x.val.length vC]),lAny,lAny,lAny,lAny,lAny,lAny,lEq (.int .i64 (R.2 : Nat))]
         (CbL (bv ([])).toArray 5 (NodeR (InQ R)) zNode NodeB (KeyW ([])) (VerW ([])) W7) (CbL.more (stays (InQ R) ([]) ([]))) (CbS.start _)
         ⟨?o0,?o1,?o2,?o3,?o4,?o5,?o6,?o7,?o8,?o9,?o10,?o11,?o12,?o13,?o14,?o15,?o16,trivial⟩ ?fin
        case o0 =>
         refine StOp.free rfl (by kernel_rfl) (fun A va D w' hF hT hN hE hd hu hg => ?_)
         have e1 : A.eval (.tmp 11) = .pointer (some ⟨wr.heap.size,0,none⟩) := hF 11 rfl
         exact wp_fieldN wrS rfl e1 (by omega) ⟨_,rfl,rfl,Below.refl _ _⟩
        case o1 =>
         refine StOp.free rfl (by kernel_rfl) (fun A va D w' hF hT hN hE hd hu hg => ?_)
         have e1 : A.eval (.tmp 42) = .pointer (some ⟨wr.heap.size,0,none⟩) := (hT 42 0 (by simp) rfl).trans (hg ⟨0,.data⟩ (by simp) rfl rfl)
         exact wp_ld_int (k := .i64) rfl e1 (by kernel_rfl) ((bw.below (CbL.below hE) bw.lt).cell (i := 0) rfl) ⟨_,rfl,rfl,Below.refl _ _⟩
        case o2 =>
         refine StOp.free rfl (by kernel_rfl) (fun A va D w' hF hT hN hE hd hu hg => ?_)
         have e1 : A.eval (.tmp 9) = .pointer (some ⟨W4.heap.size,0,none⟩) := hF 9 rfl
         exact wp_fieldQ stF7 rfl e1 ⟨_,rfl,rfl,Below.refl _ _⟩
        case o3 =>
         refine StOp.free rfl (by kernel_rfl) (fun A va D w' hF hT hN hE hd hu hg => ?_)
         have e1 : A.eval (.tmp 44) = .pointer (some ⟨W4.heap.size,0,none⟩) := (hT 44 2 (by simp) rfl).trans (hg ⟨2,.data⟩ (by simp) rfl rfl)
         have e2 : A.eval (.tmp 43) = .int .i64 x.table := (hT 43 1 (by simp) rfl).trans (hg ⟨1,.data⟩ (by simp) rfl rfl)
         exact wp_ixP taP (k := 1) rfl e1 e2 (by omega) (by omega) ⟨_,rfl,rfl,Below.refl _ _⟩
        case o4 =>
         refine StOp.free rfl (by kernel_rfl) (fun A va D w' hF hT hN hE hd hu hg => ?_)
         have e1 : A.eval (.tmp 45) = .pointer (some ⟨W4.heap.size,3,none⟩) := (hT 45 3 (by simp) rfl).trans (hg ⟨3,.data⟩ (by simp) rfl rfl)
         exact wp_load3 nodeS7 rfl e1 ((bx.below (CbL.below hE) bx.lt).cell (i := 3) rfl) ((bx.below (CbL.below hE) bx.lt).cell (i := 4) rfl) ((bx.below (CbL.below hE) bx.lt).cell (i := 5) rfl) ⟨_,rfl,rfl,Below.refl _ _⟩
        case o5 =>
         refine StOp.free rfl (by kernel_rfl) (fun A va D w' hF hT hN hE hd hu hg => ?_)
         have e1 : A.eval (.tmp 11) = .pointer (some ⟨wr.heap.size,0,none⟩) := hF 11 rfl
         exact wp_fieldN wrS rfl e1 (by omega) ⟨_,rfl,rfl,Below.refl _ _⟩
        case o6 =>
         refine StOp.free rfl (by kernel_rfl) (fun A va D w' hF hT hN hE hd hu hg => ?_)
         have e1 : A.eval (.tmp 47) = .pointer (some ⟨wr.heap.size,1,none⟩) := (hT 47 5 (by simp) rfl).trans (hg ⟨5,.data⟩ (by simp) rfl rfl)
         exact wp_ld_slice (e := 5) rfl e1 (by kernel_rfl) ((bw.below (CbL.below hE) bw.lt).cell (i := 1) rfl) ⟨_,rfl,rfl,Below.refl _ _⟩
        case o7 =>
         refine StOp.free rfl (by kernel_rfl) (fun A va D w' hF hT hN hE hd hu hg => ?_)
         have e1 : A.eval (.tmp 11) = .pointer (some ⟨wr.heap.size,0,none⟩) := hF 11 rfl
         exact wp_load4 wrS rfl e1 ((bw.below (CbL.below hE) bw.lt).cell (i := 0) rfl) ((bw.below (CbL.below hE) bw.lt).cell (i := 1) rfl) ((bw.below (CbL.below hE) bw.lt).cell (i := 2) rfl) ((bw.below (CbL.below hE) bw.lt).cell (i := 3) rfl) ⟨_,rfl,rfl,Below.refl _ _⟩
        case o8 =>
         refine StOp.free rfl (by kernel_rfl) (fun A va D w' hF hT hN hE hd hu hg => ?_)
         have e1 : A.eval (.tmp 4) = .pointer (some ⟨w.heap.size + 1,0,none⟩) := hF 4 rfl
         exact wp_ld_int (k := .i64) rfl e1 (by kernel_rfl) (((CbL.below hE).cell (p := ⟨w.heap.size + 1,0,none⟩) bs.lt).trans bs.cell) ⟨_,rfl,rfl,Below.refl _ _⟩
        case o9 =>
         refine StOp.free rfl (by kernel_rfl) (fun A va D w' hF hT hN hE hd hu hg => ?_)
         have e1 : A.eval (.tmp 49) = .agg #[.int .i64 x.table,.slice kA x.key.length kC,.bool x.gone,.slice vA x.val.length vC] := (hT 49 7 (by simp) rfl).trans (hg ⟨7,.data⟩ (by simp) rfl rfl)
         have e2 : A.eval (.tmp 50) = .int .i64 s := (hT 50 8 (by simp) rfl).trans (hg ⟨8,.data⟩ (by simp) rfl rfl)
         refine wp_callFn rfl (enters_of Tryz.func45 (by kernel_rfl) rfl) (args := #[.agg #[.int .i64 x.table,.slice kA x.key.length kC,.bool x.gone,.slice vA x.val.length vC],.int .i64 s]) (by simp only [List.map_toArray,List.map_cons,List.map_nil,e1,e2]) ((version_any w' x kA vA kC vC s).mono ?_)
         rintro e w2 ⟨rfl,hb2⟩
         exact ⟨_,rfl,_,rfl,rfl,hb2⟩
        case o10 =>
         refine StOp.set rfl (by kernel_rfl) (fun A va D w' hF hT hN hE hd hu hg => ?_)
         have e1 : A.eval (.tmp 46) = .agg #[.slice (a2 3) (m2 3) (c2 3),.slice (a2 4) (m2 4) (c2 4),.slice (a2 5) (m2 5) (c2 5)] := (hT 46 4 (by simp) rfl).trans (hg ⟨4,.data⟩ (by simp) rfl rfl)
         have e2 : A.eval (.tmp 48) = .slice kA x.key.length kC := (hT 48 6 (by simp) rfl).trans (hg ⟨6,.data⟩ (by simp) rfl rfl)
         have e3 : A.eval (.tmp 51) = .agg #[.int .i64 s,.bool x.gone,.slice vA x.val.length vC] := (hT 51 9 (by simp) rfl).trans (hg ⟨9,.data⟩ (by simp) rfl rfl)
         have hE2 := hE
         simp only [told,List.map_cons,List.map_nil,hN,Bool.false_eq_true,if_false] at hE2
         have hBE := hE2.be
         refine wp_callFn rfl (enters_of Tryz.func48 (by kernel_rfl) rfl) (args := #[.agg #[.slice (a2 3) (m2 3) (c2 3),.slice (a2 4) (m2 4) (c2 4),.slice (a2 5) (m2 5) (c2 5)],.slice kA x.key.length kC,.agg #[.int .i64 s,.bool x.gone,.slice vA x.val.length vC]]) (by simp only [List.map_toArray,List.map_cons,List.map_nil,e1,e2,e3]) ((sInstd_any w' (hn7.below hBE) hokt.1 hlt hct (hk7.below hBE) hb16 (x := verW x s) (hv7.below hBE) hmay).mono ?_)
         rintro e w2 ⟨u,mm,rfl,hrd,hb2,hz⟩
         rw [hokt.2,← hRe.out] at hz ⊢
         have h5 := CbS.call (stays (InQ R) ([]) ([])) hE2 (by simp) hb2 (v := u) (e := .int .i64 (R.2 : Nat)) ⟨mm,_,rfl,⟨rfl,hz⟩,hrd⟩
         exact ⟨_,rfl,_,rfl,by simpa [CbL,told,don,upd,bv_length] using h5,trivial⟩
        case o11 =>
         refine StOp.set rfl (by kernel_rfl) (fun A va D w' hF hT hN hE hd hu hg => ?_)
         have x1 : A.eval (.tmp 52) = va 10 := hT 52 10 (by simp) rfl
         have hE2 := hE
         have d10 : D 10 = true := hd ⟨10,.data⟩ (by simp) rfl
         simp only [told,List.map_cons,List.map_nil,hN,d10,Bool.false_eq_true,if_false,if_true] at hE2
         have h5 := CbS.move hE2
         exact BigFrame.wp_move _ rfl ⟨_,rfl,by rw [x1]; simpa [CbL,told,don,upd,bv_length,d10] using h5,trivial⟩
        case o12 =>
         refine StOp.set rfl (by kernel_rfl) (fun A va D w' hF hT hN hE hd hu hg => ?_)
         have x1 : A.eval (.tmp 41) = va 11 := hT 41 11 (by simp) rfl
         have hE2 := hE
         have d11 : D 11 = true := hd ⟨11,.data⟩ (by simp) rfl
         simp only [told,List.map_cons,List.map_nil,hN,d11,Bool.false_eq_true,if_false,if_true] at hE2
         obtain ⟨v,e,em⟩ := CbS.tup hE2
         rw [em] at hE2
         have h5 := CbS.ex0 hE2
         exact wp_ex rfl (x1.trans em) rfl ⟨_,rfl,by simpa [CbL,told,don,upd,d11,em] using h5,trivial⟩
        case o13 =>
         refine StOp.set rfl (by kernel_rfl) (fun A va D w' hF hT hN hE hd hu hg => ?_)
         have x1 : A.eval (.tmp 41) = va 11 := hT 41 11 (by simp) rfl
         have hE2 := hE
         have d11 : D 11 = true := hd ⟨11,.data⟩ (by simp) rfl
         simp only [told,List.map_cons,List.map_nil,hN,d11,Bool.false_eq_true,if_false,if_true] at hE2
         obtain ⟨v,e,em⟩ := CbS.tup hE2
         rw [em] at hE2
         have h5 := CbS.ex1 hE2
         exact wp_ex rfl (x1.trans em) rfl ⟨_,rfl,by simpa [CbL,told,don,upd,d11,em] using h5,trivial⟩
        case o14 =>
         refine StOp.set rfl (by kernel_rfl) (fun A va D w' hF hT hN hE hd hu hg => ?_)
         have hE2 := hE
         simp only [told,List.map_cons,List.map_nil,hN,Bool.false_eq_true,if_false] at hE2
         refine wp_allocN rfl (fun w2 hb2 hz => ⟨_,rfl,?_,trivial⟩)
         have h5 := CbS.alloc (stays (InQ R) ([]) ([])) hE2 hb2 hz
         simpa [CbL,told,don,upd,bv_length] using h5
        case o15 =>
         refine StOp.set rfl (by kernel_rfl) (fun A va D w' hF hT hN hE hd hu hg => ?_)
         have x1 : A.eval (.tmp 12) = va 14 := hT 12 14 (by simp) rfl
         have x2 : A.eval (.tmp 53) = va 12 := hT 53 12 (by simp) rfl
         have hE2 := hE
         have d14 : D 14 = true := hd ⟨14,.data⟩ (by simp) rfl
         have d12 : D 12 = true := hd ⟨12,.data⟩ (by simp) rfl
         simp only [told,List.map_cons,List.map_nil,hN,d14,d12,Bool.false_eq_true,if_false,if_true] at hE2
         obtain ⟨b,eb,hb0⟩ := CbS.box hE2
         obtain ⟨e,hm⟩ := hE2.mx _ rfl
         obtain ⟨v,e2,ec,n2,er,_,_,hrd⟩ := hE2.rr _ (hE2.mv _ hm)
         obtain ⟨A1,B1,A2,B2,A3,B3,ev,_⟩ := id hrd
         injection ec with ec
         injection ec with ec
         injection ec with ec _
         rw [← ec] at ev
         refine wp_storeT rfl (x1.trans eb) (x2.trans ev) rfl rfl rfl hb0 (fun w2 hg2 ht2 => ⟨_,rfl,?_,trivial⟩)
         rw [eb] at hE2
         have h5 := CbS.sto (u := undef) (stays (InQ R) ([]) ([])) hE2 hg2 ⟨_,_,_,ev,ht2⟩
         simpa [CbL,told,don,upd,d14,d12,eb] using h5
        case o16 =>
         refine StOp.free rfl (by kernel_rfl) (fun A va D w' hF hT hN hE hd hu hg => ?_)
         have x1 : A.eval (.tmp 54) = va 13 := hT 54 13 (by simp) rfl
         have hE2 := hE
         have d13 : D 13 = true := hd ⟨13,.data⟩ (by simp) rfl
         simp only [told,List.map_cons,List.map_nil,d13,if_true] at hE2
         have ee := CbS.err hE2 (fun n er hQ => hQ.1)
         exact BigFrame.wp_assign _ rfl ⟨_,rfl,x1.trans ee,Below.refl _ _⟩
        case fin =>
         intro vs1 W1 hE hG
         obtain ⟨bM,ez,em,ec,hbM,hBx,hR,hbE⟩ := CbS.done (nodeR _) hE (by simp)
         obtain ⟨nM,er,ee,hQ,hM⟩ := hR
         have her : er = R.2 := hQ.1
         rw [her] at ee hQ
         clear her
         obtain ⟨x1,y1,z1,ev,hTM⟩ := hBx
         have g0 : vs1 0 = .pointer (some ⟨wr.heap.size,0,none⟩) := hG 0 (by decide) rfl
         have g1 : vs1 1 = .int .i64 x.table := hG 1 (by decide) rfl
         have g2 : vs1 2 = .pointer (some ⟨W4.heap.size,0,none⟩) := hG 2 (by decide) rfl
         have g3 : vs1 3 = .pointer (some ⟨W4.heap.size,3,none⟩) := hG 3 (by decide) rfl
         have g4 : vs1 4 = .agg #[.slice (a2 3) (m2 3) (c2 3),.slice (a2 4) (m2 4) (c2 4),.slice (a2 5) (m2 5) (c2 5)] := hG 4 (by decide) rfl
         have g5 : vs1 5 = .pointer (some ⟨wr.heap.size,1,none⟩) := hG 5 (by decide) rfl
         have g6 : vs1 6 = .slice kA x.key.length kC := hG 6 (by decide) rfl
         have g7 : vs1 7 = .agg #[.int .i64 x.table,.slice kA x.key.length kC,.bool x.gone,.slice vA x.val.length vC] := hG 7 (by decide) rfl
         have g8 : vs1 8 = .int .i64 s := hG 8 (by decide) rfl
         have g9 : vs1 9 = .agg #[.int .i64 s,.bool x.gone,.slice vA x.val.length vC] := hG 9 (by decide) rfl
         have g16 : vs1 16 = .int .i64 (R.2 : Nat) := hG 16 (by decide) rfl
         simp only [putAll,g0,g1,g2,g3,g4,g5,g6,g7,g8,g9,g16,ec,em,ev,ee,ez]
         rw [ev] at hM
         obtain ⟨A1,B1,A3,B3,A5,B5,e3,_,_,_⟩ := id hM
         injection e3 with e3
         injection e3 with e3
         injection e3 with e4 e3
         injection e3 with e5 e3
         injection e3 with e6 _
         subst e4 e5 e6
         clear hE hG ec em ev ee ez g0 g1 g2 g3 g4 g5 g6 g7 g8 g9 g16
         have hs1 := hbE.size
         go_simp
         have q1 : Below w.heap.size w W1 := (qw.trans (b7.mono (by omega))).trans (hbE.mono (by omega))
         have ht' : x.table.toNat = 1 := by rw [ht]; rfl
         by_cases hz : R.2 = 0
         ·have dz : ((R.2 : Int) != 0) = false := by rw [hz]; rfl
          have hmM := hQ.2 hz
          have hst := hIS.step hlt0 (hno.out _ (List.getElem_mem hlt0)) (by rw [← hxe.out,ht',← hRe.out]; exact hz) (m := nM) (by rw [← hxe.out,ht',← hRe.out]; exact hmM)
          rw [← hxe.out,ht',← hRe.out] at hst
          replace hst := Lib.hid hst
          have bx1 : StB W1 W4.heap.size a2 m2 c2 := bx.below hbE bx.lt
          have bw1 := bw.below hbE bw.lt
          have y0 := hTM.cell0
          have y1 := hTM.cell1
          have y2 := hTM.cell2
          have x0 := bw1.cell (i := 0) rfl
          have hbl := bx.lt
          have hA1 : ∀ j,j < 4 → RdN (fun k => w.heap.size + 3 ≤ k ∧ k < wr.heap.size ∧ k ≠ W4.heap.size) W1 (.agg #[.slice (a2 (3 * j)) (m2 (3 * j)) (c2 (3 * j)),.slice (a2 (3 * j + 1)) (m2 (3 * j + 1)) (c2 (3 * j + 1)),.slice (a2 (3 * j + 2)) (m2 (3 * j + 2)) (c2 (3 * j + 2))]) (T' j) := fun j hj => (hA.out j hj).keep fun k hk => (hbE.block k (by omega)).trans (b7.block k hk.2.1)
          replace hA1 := Lib.hid hA1
          have hM1 := Lib.hid (hM.weak (S' := fun k => w.heap.size + 3 ≤ k ∧ k < W1.heap.size ∧ k ≠ W4.heap.size) fun k hk => by
           have h1 := hk.1
           have h2 := hk.2.1
           exact ⟨by omega,h2,by omega⟩)
          replace hz := Lib.hid hz
          replace hmM := Lib.hid hmM
          clear hM hQ
          go_wp2_with (first | (refine wpList_ixP taP 1 rfl rfl rfl rfl (by omega) (by omega) ?_) | (refine wpList_boxPut (us := [.slice A1 nM.keys.length B1,.slice A3 nM.chains.length B3,.slice A5 nM.kids.length B5]) (by kernel_rfl) rfl rfl rfl rfl rfl rfl bx1 (by show _ ≤ 12; simp) (fun W9 hg9 bx9 => ?_)) | fail)
          go_roundw
          case rel =>
           have hs9 := hg9.size
           have hk9 : ∀ k,k < W1.heap.size → k ≠ W4.heap.size → W9.heap[k]? = W1.heap[k]? := fun k h1 h2 => hg9.block k h1 (fun e => h2 (by injection e))
           have hb9 : Below W4.heap.size W1 W9 := ⟨hg9.os,hg9.tape,hg9.output,hs9,fun k hk => hk9 k (by omega) (by omega)⟩
           refine ⟨i + 1,fun j => if j = 3 then A1 else if j = 4 then A3 else if j = 5 then A5 else a2 j,fun j => if j = 3 then nM.keys.length else if j = 4 then nM.chains.length else if j = 5 then nM.kids.length else m2 j,fun j => if j = 3 then B1 else if j = 4 then B3 else if j = 5 then B5 else c2 j,_,_,by go_num,by omega,((hb.trans (b7.mono (by omega))).trans (hbE.mono (by omega))).trans hb9,bx9,hst.out,fun j hj => ?_⟩
           match j,hj with
           | 0,_ => exact (((hA1.out 0 (by omega)).keep fun k hk => hk9 k (by omega) hk.2.2).weak fun k hk => ⟨hk.1,by omega,hk.2.2⟩)
           | 1,_ => exact ((hM1.out.keep fun k hk => hk9 k hk.2.1 hk.2.2).weak fun k hk => ⟨hk.1,by omega,hk.2.2⟩)
           | 2,_ => exact (((hA1.out 2 (by omega)).keep fun k hk => hk9 k (by omega) hk.2.2).weak fun k hk => ⟨hk.1,by omega,hk.2.2⟩)
           | 3,_ => exact (((hA1.out 3 (by omega)).keep fun k hk => hk9 k (by omega) hk.2.2).weak fun k hk => ⟨hk.1,by omega,hk.2.2⟩)
           | j + 4,hj => omega
          case measure => simp [toN]; omega
         ·have dz : ((R.2 : Int) != 0) = true := by rw [bne_iff_ne]; omega
          have H2 := Lib.hid (show (instI T s l).2 = R.2 from by
           have h := hIS.err hlt0 (by rw [← hxe.out,ht',← hRe.out]; exact hz)
           rw [← hxe.out,ht',← hRe.out] at h
           rw [hII.out,h])
          have H := Lib.hid (InT.err (K := K) (show (instI T s l).2 ≠ 0 by rw [H2.out]; exact hz))
          have hbB : Below W4.heap.size W5 W1 := (hb.trans (b7.mono (by omega))).trans (hbE.mono (by omega))
          have qE := q1
          have bnE : StB W1 w.heap.size a m c := (hbB.block _ (by omega)).trans bn5
          have bzE : BoxN W1 (w.heap.size + 2) 29 [.slice none 0 0,.slice none 0 0,.slice none 0 0,.slice none 0 0,.slice none 0 0,.slice none 0 0,.slice none 0 0,.slice none 0 0,.slice none 0 0,.slice none 0 0,.slice none 0 0,.slice none 0 0] := (hbB.block _ (by have := bz5.lt; omega)).trans bz5
          replace hz := Lib.hid hz
          go_upto_region 10 with (fail)
          have hcp := sCopied_any W1 (hr0.below qE) hf
          have d0 := bnE.cell (i := 0) rfl
          have d1 := bnE.cell (i := 1) rfl
          have d2 := bnE.cell (i := 2) rfl
          have d3 := bnE.cell (i := 3) rfl
          have d4 := bnE.cell (i := 4) rfl
          have d5 := bnE.cell (i := 5) rfl
          have d6 := bnE.cell (i := 6) rfl
          have d7 := bnE.cell (i := 7) rfl
          have d8 := bnE.cell (i := 8) rfl
          have d9 := bnE.cell (i := 9) rfl
          have d10 := bnE.cell (i := 10) rfl
          have d11 := bnE.cell (i := 11) rfl
          go_wp2_with fail
          refine hcp.mono ?_
          rintro e Wc ⟨vc,rfl,⟨ac,mc,cc,rfl,hcc⟩,hbc⟩
          have bzc := bzE.below hbc bzE.lt
          clear d0 d1 d2 d3 d4 d5 d6 d7 d8 d9 d10 d11
          go_wp2_with (first | (refine wpList_boxStore (us := [.slice (ac 0) (mc 0) (cc 0),.slice (ac 1) (mc 1) (cc 1),.slice (ac 2) (mc 2) (cc 2),.slice (ac 3) (mc 3) (cc 3),.slice (ac 4) (mc 4) (cc 4),.slice (ac 5) (mc 5) (cc 5),.slice (ac 6) (mc 6) (cc 6),.slice (ac 7) (mc 7) (cc 7),.slice (ac 8) (mc 8) (cc 8),.slice (ac 9) (mc 9) (cc 9),.slice (ac 10) (mc 10) (cc 10),.slice (ac 11) (mc 11) (cc 11)]) (by kernel_rfl) rfl rfl rfl rfl rfl rfl bzc rfl (fun W9 hg9 bx9 => ?_)) | fail)
          have bx9' : StB W9 (w.heap.size + 2) ac mc cc := bx9
          have d0 := bx9'.cell (i := 0) rfl
          have d1 := bx9'.cell (i := 1) rfl
          have d2 := bx9'.cell (i := 2) rfl
          have d3 := bx9'.cell (i := 3) rfl
          have d4 := bx9'.cell (i := 4) rfl
          have d5 := bx9'.cell (i := 5) rfl
          have d6 := bx9'.cell (i := 6) rfl
          have d7 := bx9'.cell (i := 7) rfl
          have d8 := bx9'.cell (i := 8) rfl
          have d9 := bx9'.cell (i := 9) rfl
          have d10 := bx9'.cell (i := 10) rfl
          have d11 := bx9'.cell (i := 11) rfl
          refine bodyPost_ret (v := .tuple #[.agg #[.slice (ac 0) (mc 0) (cc 0),.slice (ac 1) (mc 1) (cc 1),.slice (ac 2) (mc 2) (cc 2),.slice (ac 3) (mc 3) (cc 3),.slice (ac 4) (mc 4) (cc 4),.slice (ac 5) (mc 5) (cc 5),.slice (ac 6) (mc 6) (cc 6),.slice (ac 7) (mc 7) (cc 7),.slice (ac 8) (mc 8) (cc 8),.slice (ac 9) (mc 9) (cc 9),.slice (ac 10) (mc 10) (cc 10),.slice (ac 11) (mc 11) (cc 11)],.int .i64 ((R.2 : Nat) : Int)]) (by simp [results,Tryz.results24,go_sem,loadVar,isAgg,run_underlying Tryz.underlying29,run_sizeOf' (show (Tryz.prog.info? 29).map (·.size) = some 12 by kernel_rfl),loadCellsFrom,Addr.add,d0,d1,d2,d3,d4,d5,d6,d7,d8,d9,d10,d11]) rfl ?_
          have hs9 := hg9.size
          have hsE := qE.size
          have hsc := hbc.size
          have hzl := bzE.lt
          have hne : ∀ k,k < Wc.heap.size → k ≠ w.heap.size + 2 → W9.heap[k]? = Wc.heap[k]? := fun k h1 h2 => hg9.block k h1 (fun e => h2 (by injection e))
          refine ⟨_,T,by rw [H2.out],⟨ac,mc,cc,rfl,fun j hj => ((hcc j hj).keep fun k hk => hne k hk.2 (by omega)).weak fun k hk => ⟨by omega,by omega⟩⟩,(qE.trans (hbc.mono hsE)).trans ⟨hg9.os,hg9.tape,hg9.output,hs9,fun k hk => hne k (by omega) (by omega)⟩,H.out⟩
       ·have hn7 : RdN (fun k => w.heap.size + 3 ≤ k) W7 (.agg #[.slice (a2 6) (m2 6) (c2 6),.slice (a2 7) (m2 7) (c2 7),.slice (a2 8) (m2 8) (c2 8)]) (T' 2) := ((hA.out 2 (by omega)).below b7).weak fun k hk => hk.1
        have hokt := hIS.ok 2 (by omega)
        have hlt : (pairsN (T' 2)).length ≤ 60 := by rw [hokt.2]; exact hIS.len 2 (by omega)
        have hct : ∀ p ∈ pairsN (T' 2),p.chain.length ≤ 900 := by rw [hokt.2]; exact fun p hp => by have := hIS.ch 2 (by omega) p hp; omega
        obtain ⟨R,hR⟩ : ∃ R,R = inst1 (Lc 2) x.key (verW x s) := ⟨_,rfl⟩
        have hRe := Lib.hid hR
        clear hR
        refine wp_region_setl (K := fun _ _ => True) (by kernel_rfl) (by kernel_rfl) [10,11,12,13,14,15] (by kernel_rfl) [lEq (.pointer (some ⟨wr.heap.size,0,none⟩)),lEq (.int .i64 x.table),lEq (.pointer (some ⟨W4.heap.size,0,none⟩)),lEq (.pointer (some ⟨W4.heap.size,6,none⟩)),lEq (.agg #[.slice (a2 6) (m2 6) (c2 6),.slice (a2 7) (m2 7) (c2 7),.slice (a2 8) (m2 8) (c2 8)]),lEq (.pointer (some ⟨wr.heap.size,1,none⟩)),lEq (.slice kA x.key.length kC),lEq (.agg #[.int .i64 x.table,.slice kA x.key.length kC,.bool x.gone,.slice vA x.val.length vC]),lEq (.int .i64 s),lEq (.agg #[.int .i64 s,.bool x.gone,.slice vA x.val.length vC]),lAny,lAny,lAny,lAny,lAny,lAny,lEq (.int .i64 (R.2 : Nat))]
         (CbL (bv ([])).toArray 5 (NodeR (InQ R)) zNode NodeB (KeyW ([])) (VerW ([])) W7) (CbL.more (stays (InQ R) ([]) ([]))) (CbS.start _)
         ⟨?o0,?o1,?o2,?o3,?o4,?o5,?o6,?o7,?o8,?o9,?o10,?o11,?o12,?o13,?o14,?o15,?o16,trivial⟩ ?fin
        case o0 =>
         refine StOp.free rfl (by kernel_rfl) (fun A va D w' hF hT hN hE hd hu hg => ?_)
         have e1 : A.eval (.tmp 11) = .pointer (some ⟨wr.heap.size,0,none⟩) := hF 11 rfl
         exact wp_fieldN wrS rfl e1 (by omega) ⟨_,rfl,rfl,Below.refl _ _⟩
        case o1 =>
         refine StOp.free rfl (by kernel_rfl) (fun A va D w' hF hT hN hE hd hu hg => ?_)
         have e1 : A.eval (.tmp 42) = .pointer (some ⟨wr.heap.size,0,none⟩) := (hT 42 0 (by simp) rfl).trans (hg ⟨0,.data⟩ (by simp) rfl rfl)
         exact wp_ld_int (k := .i64) rfl e1 (by kernel_rfl) ((bw.below (CbL.below hE) bw.lt).cell (i := 0) rfl) ⟨_,rfl,rfl,Below.refl _ _⟩
        case o2 =>
         refine StOp.free rfl (by kernel_rfl) (fun A va D w' hF hT hN hE hd hu hg => ?_)
         have e1 : A.eval (.tmp 9) = .pointer (some ⟨W4.heap.size,0,none⟩) := hF 9 rfl
         exact wp_fieldQ stF7 rfl e1 ⟨_,rfl,rfl,Below.refl _ _⟩
        case o3 =>
         refine StOp.free rfl (by kernel_rfl) (fun A va D w' hF hT hN hE hd hu hg => ?_)
         have e1 : A.eval (.tmp 44) = .pointer (some ⟨W4.heap.size,0,none⟩) := (hT 44 2 (by simp) rfl).trans (hg ⟨2,.data⟩ (by simp) rfl rfl)
         have e2 : A.eval (.tmp 43) = .int .i64 x.table := (hT 43 1 (by simp) rfl).trans (hg ⟨1,.data⟩ (by simp) rfl rfl)
         exact wp_ixP taP (k := 2) rfl e1 e2 (by omega) (by omega) ⟨_,rfl,rfl,Below.refl _ _⟩
        case o4 =>
         refine StOp.free rfl (by kernel_rfl) (fun A va D w' hF hT hN hE hd hu hg => ?_)
         have e1 : A.eval (.tmp 45) = .pointer (some ⟨W4.heap.size,6,none⟩) := (hT 45 3 (by simp) rfl).trans (hg ⟨3,.data⟩ (by simp) rfl rfl)
         exact wp_load3 nodeS7 rfl e1 ((bx.below (CbL.below hE) bx.lt).cell (i := 6) rfl) ((bx.below (CbL.below hE) bx.lt).cell (i := 7) rfl) ((bx.below (CbL.below hE) bx.lt).cell (i := 8) rfl) ⟨_,rfl,rfl,Below.refl _ _⟩
        case o5 =>
         refine StOp.free rfl (by kernel_rfl) (fun A va D w' hF hT hN hE hd hu hg => ?_)
         have e1 : A.eval (.tmp 11) = .pointer (some ⟨wr.heap.size,0,none⟩) := hF 11 rfl
         exact wp_fieldN wrS rfl e1 (by omega) ⟨_,rfl,rfl,Below.refl _ _⟩
        case o6 =>
         refine StOp.free rfl (by kernel_rfl) (fun A va D w' hF hT hN hE hd hu hg => ?_)
         have e1 : A.eval (.tmp 47) = .pointer (some ⟨wr.heap.size,1,none⟩) := (hT 47 5 (by simp) rfl).trans (hg ⟨5,.data⟩ (by simp) rfl rfl)
         exact wp_ld_slice (e := 5) rfl e1 (by kernel_rfl) ((bw.below (CbL.below hE) bw.lt).cell (i := 1) rfl) ⟨_,rfl,rfl,Below.refl _ _⟩
        case o7 =>
         refine StOp.free rfl (by kernel_rfl) (fun A va D w' hF hT hN hE hd hu hg => ?_)
         have e1 : A.eval (.tmp 11) = .pointer (some ⟨wr.heap.size,0,none⟩) := hF 11 rfl
         exact wp_load4 wrS rfl e1 ((bw.below (CbL.below hE) bw.lt).cell (i := 0) rfl) ((bw.below (CbL.below hE) bw.lt).cell (i := 1) rfl) ((bw.below (CbL.below hE) bw.lt).cell (i := 2) rfl) ((bw.below (CbL.below hE) bw.lt).cell (i := 3) rfl) ⟨_,rfl,rfl,Below.refl _ _⟩
        case o8 =>
         refine StOp.free rfl (by kernel_rfl) (fun A va D w' hF hT hN hE hd hu hg => ?_)
         have e1 : A.eval (.tmp 4) = .pointer (some ⟨w.heap.size + 1,0,none⟩) := hF 4 rfl
         exact wp_ld_int (k := .i64) rfl e1 (by kernel_rfl) (((CbL.below hE).cell (p := ⟨w.heap.size + 1,0,none⟩) bs.lt).trans bs.cell) ⟨_,rfl,rfl,Below.refl _ _⟩
        case o9 =>
         refine StOp.free rfl (by kernel_rfl) (fun A va D w' hF hT hN hE hd hu hg => ?_)
         have e1 : A.eval (.tmp 49) = .agg #[.int .i64 x.table,.slice kA x.key.length kC,.bool x.gone,.slice vA x.val.length vC] := (hT 49 7 (by simp) rfl).trans (hg ⟨7,.data⟩ (by simp) rfl rfl)
         have e2 : A.eval (.tmp 50) = .int .i64 s := (hT 50 8 (by simp) rfl).trans (hg ⟨8,.data⟩ (by simp) rfl rfl)
         refine wp_callFn rfl (enters_of Tryz.func45 (by kernel_rfl) rfl) (args := #[.agg #[.int .i64 x.table,.slice kA x.key.length kC,.bool x.gone,.slice vA x.val.length vC],.int .i64 s]) (by simp only [List.map_toArray,List.map_cons,List.map_nil,e1,e2]) ((version_any w' x kA vA kC vC s).mono ?_)
         rintro e w2 ⟨rfl,hb2⟩
         exact ⟨_,rfl,_,rfl,rfl,hb2⟩
        case o10 =>
         refine StOp.set rfl (by kernel_rfl) (fun A va D w' hF hT hN hE hd hu hg => ?_)
         have e1 : A.eval (.tmp 46) = .agg #[.slice (a2 6) (m2 6) (c2 6),.slice (a2 7) (m2 7) (c2 7),.slice (a2 8) (m2 8) (c2 8)] := (hT 46 4 (by simp) rfl).trans (hg ⟨4,.data⟩ (by simp) rfl rfl)
         have e2 : A.eval (.tmp 48) = .slice kA x.key.length kC := (hT 48 6 (by simp) rfl).trans (hg ⟨6,.data⟩ (by simp) rfl rfl)
         have e3 : A.eval (.tmp 51) = .agg #[.int .i64 s,.bool x.gone,.slice vA x.val.length vC] := (hT 51 9 (by simp) rfl).trans (hg ⟨9,.data⟩ (by simp) rfl rfl)
         have hE2 := hE
         simp only [told,List.map_cons,List.map_nil,hN,Bool.false_eq_true,if_false] at hE2
         have hBE := hE2.be
         refine wp_callFn rfl (enters_of Tryz.func48 (by kernel_rfl) rfl) (args := #[.agg #[.slice (a2 6) (m2 6) (c2 6),.slice (a2 7) (m2 7) (c2 7),.slice (a2 8) (m2 8) (c2 8)],.slice kA x.key.length kC,.agg #[.int .i64 s,.bool x.gone,.slice vA x.val.length vC]]) (by simp only [List.map_toArray,List.map_cons,List.map_nil,e1,e2,e3]) ((sInstd_any w' (hn7.below hBE) hokt.1 hlt hct (hk7.below hBE) hb16 (x := verW x s) (hv7.below hBE) hmay).mono ?_)
         rintro e w2 ⟨u,mm,rfl,hrd,hb2,hz⟩
         rw [hokt.2,← hRe.out] at hz ⊢
         have h5 := CbS.call (stays (InQ R) ([]) ([])) hE2 (by simp) hb2 (v := u) (e := .int .i64 (R.2 : Nat)) ⟨mm,_,rfl,⟨rfl,hz⟩,hrd⟩
         exact ⟨_,rfl,_,rfl,by simpa [CbL,told,don,upd,bv_length] using h5,trivial⟩
        case o11 =>
         refine StOp.set rfl (by kernel_rfl) (fun A va D w' hF hT hN hE hd hu hg => ?_)
         have x1 : A.eval (.tmp 52) = va 10 := hT 52 10 (by simp) rfl
         have hE2 := hE
         have d10 : D 10 = true := hd ⟨10,.data⟩ (by simp) rfl
         simp only [told,List.map_cons,List.map_nil,hN,d10,Bool.false_eq_true,if_false,if_true] at hE2
         have h5 := CbS.move hE2
         exact BigFrame.wp_move _ rfl ⟨_,rfl,by rw [x1]; simpa [CbL,told,don,upd,bv_length,d10] using h5,trivial⟩
        case o12 =>
         refine StOp.set rfl (by kernel_rfl) (fun A va D w' hF hT hN hE hd hu hg => ?_)
         have x1 : A.eval (.tmp 41) = va 11 := hT 41 11 (by simp) rfl
         have hE2 := hE
         have d11 : D 11 = true := hd ⟨11,.data⟩ (by simp) rfl
         simp only [told,List.map_cons,List.map_nil,hN,d11,Bool.false_eq_true,if_false,if_true] at hE2
         obtain ⟨v,e,em⟩ := CbS.tup hE2
         rw [em] at hE2
         have h5 := CbS.ex0 hE2
         exact wp_ex rfl (x1.trans em) rfl ⟨_,rfl,by simpa [CbL,told,don,upd,d11,em] using h5,trivial⟩
        case o13 =>
         refine StOp.set rfl (by kernel_rfl) (fun A va D w' hF hT hN hE hd hu hg => ?_)
         have x1 : A.eval (.tmp 41) = va 11 := hT 41 11 (by simp) rfl
         have hE2 := hE
         have d11 : D 11 = true := hd ⟨11,.data⟩ (by simp) rfl
         simp only [told,List.map_cons,List.map_nil,hN,d11,Bool.false_eq_true,if_false,if_true] at hE2
         obtain ⟨v,e,em⟩ := CbS.tup hE2
         rw [em] at hE2
         have h5 := CbS.ex1 hE2
         exact wp_ex rfl (x1.trans em) rfl ⟨_,rfl,by simpa [CbL,told,don,upd,d11,em] using h5,trivial⟩
        case o14 =>
         refine StOp.set rfl (by kernel_rfl) (fun A va D w' hF hT hN hE hd hu hg => ?_)
         have hE2 := hE
         simp only [told,List.map_cons,List.map_nil,hN,Bool.false_eq_true,if_false] at hE2
         refine wp_allocN rfl (fun w2 hb2 hz => ⟨_,rfl,?_,trivial⟩)
         have h5 := CbS.alloc (stays (InQ R) ([]) ([])) hE2 hb2 hz
         simpa [CbL,told,don,upd,bv_length] using h5
        case o15 =>
         refine StOp.set rfl (by kernel_rfl) (fun A va D w' hF hT hN hE hd hu hg => ?_)
         have x1 : A.eval (.tmp 12) = va 14 := hT 12 14 (by simp) rfl
         have x2 : A.eval (.tmp 53) = va 12 := hT 53 12 (by simp) rfl
         have hE2 := hE
         have d14 : D 14 = true := hd ⟨14,.data⟩ (by simp) rfl
         have d12 : D 12 = true := hd ⟨12,.data⟩ (by simp) rfl
         simp only [told,List.map_cons,List.map_nil,hN,d14,d12,Bool.false_eq_true,if_false,if_true] at hE2
         obtain ⟨b,eb,hb0⟩ := CbS.box hE2
         obtain ⟨e,hm⟩ := hE2.mx _ rfl
         obtain ⟨v,e2,ec,n2,er,_,_,hrd⟩ := hE2.rr _ (hE2.mv _ hm)
         obtain ⟨A1,B1,A2,B2,A3,B3,ev,_⟩ := id hrd
         injection ec with ec
         injection ec with ec
         injection ec with ec _
         rw [← ec] at ev
         refine wp_storeT rfl (x1.trans eb) (x2.trans ev) rfl rfl rfl hb0 (fun w2 hg2 ht2 => ⟨_,rfl,?_,trivial⟩)
         rw [eb] at hE2
         have h5 := CbS.sto (u := undef) (stays (InQ R) ([]) ([])) hE2 hg2 ⟨_,_,_,ev,ht2⟩
         simpa [CbL,told,don,upd,d14,d12,eb] using h5
        case o16 =>
         refine StOp.free rfl (by kernel_rfl) (fun A va D w' hF hT hN hE hd hu hg => ?_)
         have x1 : A.eval (.tmp 54) = va 13 := hT 54 13 (by simp) rfl
         have hE2 := hE
         have d13 : D 13 = true := hd ⟨13,.data⟩ (by simp) rfl
         simp only [told,List.map_cons,List.map_nil,d13,if_true] at hE2
         have ee := CbS.err hE2 (fun n er hQ => hQ.1)
         exact BigFrame.wp_assign _ rfl ⟨_,rfl,x1.trans ee,Below.refl _ _⟩
        case fin =>
         intro vs1 W1 hE hG
         obtain ⟨bM,ez,em,ec,hbM,hBx,hR,hbE⟩ := CbS.done (nodeR _) hE (by simp)
         obtain ⟨nM,er,ee,hQ,hM⟩ := hR
         have her : er = R.2 := hQ.1
         rw [her] at ee hQ
         clear her
         obtain ⟨x1,y1,z1,ev,hTM⟩ := hBx
         have g0 : vs1 0 = .pointer (some ⟨wr.heap.size,0,none⟩) := hG 0 (by decide) rfl
         have g1 : vs1 1 = .int .i64 x.table := hG 1 (by decide) rfl
         have g2 : vs1 2 = .pointer (some ⟨W4.heap.size,0,none⟩) := hG 2 (by decide) rfl
         have g3 : vs1 3 = .pointer (some ⟨W4.heap.size,6,none⟩) := hG 3 (by decide) rfl
         have g4 : vs1 4 = .agg #[.slice (a2 6) (m2 6) (c2 6),.slice (a2 7) (m2 7) (c2 7),.slice (a2 8) (m2 8) (c2 8)] := hG 4 (by decide) rfl
         have g5 : vs1 5 = .pointer (some ⟨wr.heap.size,1,none⟩) := hG 5 (by decide) rfl
         have g6 : vs1 6 = .slice kA x.key.length kC := hG 6 (by decide) rfl
         have g7 : vs1 7 = .agg #[.int .i64 x.table,.slice kA x.key.length kC,.bool x.gone,.slice vA x.val.length vC] := hG 7 (by decide) rfl
         have g8 : vs1 8 = .int .i64 s := hG 8 (by decide) rfl
         have g9 : vs1 9 = .agg #[.int .i64 s,.bool x.gone,.slice vA x.val.length vC] := hG 9 (by decide) rfl
         have g16 : vs1 16 = .int .i64 (R.2 : Nat) := hG 16 (by decide) rfl
         simp only [putAll,g0,g1,g2,g3,g4,g5,g6,g7,g8,g9,g16,ec,em,ev,ee,ez]
         rw [ev] at hM
         obtain ⟨A1,B1,A3,B3,A5,B5,e3,_,_,_⟩ := id hM
         injection e3 with e3
         injection e3 with e3
         injection e3 with e4 e3
         injection e3 with e5 e3
         injection e3 with e6 _
         subst e4 e5 e6
         clear hE hG ec em ev ee ez g0 g1 g2 g3 g4 g5 g6 g7 g8 g9 g16
         have hs1 := hbE.size
         go_simp
         have q1 : Below w.heap.size w W1 := (qw.trans (b7.mono (by omega))).trans (hbE.mono (by omega))
         have ht' : x.table.toNat = 2 := by rw [ht]; rfl
         by_cases hz : R.2 = 0
         ·have dz : ((R.2 : Int) != 0) = false := by rw [hz]; rfl
          have hmM := hQ.2 hz
          have hst := hIS.step hlt0 (hno.out _ (List.getElem_mem hlt0)) (by rw [← hxe.out,ht',← hRe.out]; exact hz) (m := nM) (by rw [← hxe.out,ht',← hRe.out]; exact hmM)
          rw [← hxe.out,ht',← hRe.out] at hst
          replace hst := Lib.hid hst
          have bx1 : StB W1 W4.heap.size a2 m2 c2 := bx.below hbE bx.lt
          have bw1 := bw.below hbE bw.lt
          have y0 := hTM.cell0
          have y1 := hTM.cell1
          have y2 := hTM.cell2
          have x0 := bw1.cell (i := 0) rfl
          have hbl := bx.lt
          have hA1 : ∀ j,j < 4 → RdN (fun k => w.heap.size + 3 ≤ k ∧ k < wr.heap.size ∧ k ≠ W4.heap.size) W1 (.agg #[.slice (a2 (3 * j)) (m2 (3 * j)) (c2 (3 * j)),.slice (a2 (3 * j + 1)) (m2 (3 * j + 1)) (c2 (3 * j + 1)),.slice (a2 (3 * j + 2)) (m2 (3 * j + 2)) (c2 (3 * j + 2))]) (T' j) := fun j hj => (hA.out j hj).keep fun k hk => (hbE.block k (by omega)).trans (b7.block k hk.2.1)
          replace hA1 := Lib.hid hA1
          have hM1 := Lib.hid (hM.weak (S' := fun k => w.heap.size + 3 ≤ k ∧ k < W1.heap.size ∧ k ≠ W4.heap.size) fun k hk => by
           have h1 := hk.1
           have h2 := hk.2.1
           exact ⟨by omega,h2,by omega⟩)
          replace hz := Lib.hid hz
          replace hmM := Lib.hid hmM
          clear hM hQ
          go_wp2_with (first | (refine wpList_ixP taP 2 rfl rfl rfl rfl (by omega) (by omega) ?_) | (refine wpList_boxPut (us := [.slice A1 nM.keys.length B1,.slice A3 nM.chains.length B3,.slice A5 nM.kids.length B5]) (by kernel_rfl) rfl rfl rfl rfl rfl rfl bx1 (by show _ ≤ 12; simp) (fun W9 hg9 bx9 => ?_)) | fail)
          go_roundw
          case rel =>
           have hs9 := hg9.size
           have hk9 : ∀ k,k < W1.heap.size → k ≠ W4.heap.size → W9.heap[k]? = W1.heap[k]? := fun k h1 h2 => hg9.block k h1 (fun e => h2 (by injection e))
           have hb9 : Below W4.heap.size W1 W9 := ⟨hg9.os,hg9.tape,hg9.output,hs9,fun k hk => hk9 k (by omega) (by omega)⟩
           refine ⟨i + 1,fun j => if j = 6 then A1 else if j = 7 then A3 else if j = 8 then A5 else a2 j,fun j => if j = 6 then nM.keys.length else if j = 7 then nM.chains.length else if j = 8 then nM.kids.length else m2 j,fun j => if j = 6 then B1 else if j = 7 then B3 else if j = 8 then B5 else c2 j,_,_,by go_num,by omega,((hb.trans (b7.mono (by omega))).trans (hbE.mono (by omega))).trans hb9,bx9,hst.out,fun j hj => ?_⟩
           match j,hj with
           | 0,_ => exact (((hA1.out 0 (by omega)).keep fun k hk => hk9 k (by omega) hk.2.2).weak fun k hk => ⟨hk.1,by omega,hk.2.2⟩)
           | 1,_ => exact (((hA1.out 1 (by omega)).keep fun k hk => hk9 k (by omega) hk.2.2).weak fun k hk => ⟨hk.1,by omega,hk.2.2⟩)
           | 2,_ => exact ((hM1.out.keep fun k hk => hk9 k hk.2.1 hk.2.2).weak fun k hk => ⟨hk.1,by omega,hk.2.2⟩)
           | 3,_ => exact (((hA1.out 3 (by omega)).keep fun k hk => hk9 k (by omega) hk.2.2).weak fun k hk => ⟨hk.1,by omega,hk.2.2⟩)
           | j + 4,hj => omega
          case measure => simp [toN]; omega
         ·have dz : ((R.2 : Int) != 0) = true := by rw [bne_iff_ne]; omega
          have H2 := Lib.hid (show (instI T s l).2 = R.2 from by
           have h := hIS.err hlt0 (by rw [← hxe.out,ht',← hRe.out]; exact hz)
           rw [← hxe.out,ht',← hRe.out] at h
           rw [hII.out,h])
          have H := Lib.hid (InT.err (K := K) (show (instI T s l).2 ≠ 0 by rw [H2.out]; exact hz))
          have hbB : Below W4.heap.size W5 W1 := (hb.trans (b7.mono (by omega))).trans (hbE.mono (by omega))
          have qE := q1
          have bnE : StB W1 w.heap.size a m c := (hbB.block _ (by omega)).trans bn5
          have bzE : BoxN W1 (w.heap.size + 2) 29 [.slice none 0 0,.slice none 0 0,.slice none 0 0,.slice none 0 0,.slice none 0 0,.slice none 0 0,.slice none 0 0,.slice none 0 0,.slice none 0 0,.slice none 0 0,.slice none 0 0,.slice none 0 0] := (hbB.block _ (by have := bz5.lt; omega)).trans bz5
          replace hz := Lib.hid hz
          go_upto_region 10 with (fail)
          have hcp := sCopied_any W1 (hr0.below qE) hf
          have d0 := bnE.cell (i := 0) rfl
          have d1 := bnE.cell (i := 1) rfl
          have d2 := bnE.cell (i := 2) rfl
          have d3 := bnE.cell (i := 3) rfl
          have d4 := bnE.cell (i := 4) rfl
          have d5 := bnE.cell (i := 5) rfl
          have d6 := bnE.cell (i := 6) rfl
          have d7 := bnE.cell (i := 7) rfl
          have d8 := bnE.cell (i := 8) rfl
          have d9 := bnE.cell (i := 9) rfl
          have d10 := bnE.cell (i := 10) rfl
          have d11 := bnE.cell (i := 11) rfl
          go_wp2_with fail
          refine hcp.mono ?_
          rintro e Wc ⟨vc,rfl,⟨ac,mc,cc,rfl,hcc⟩,hbc⟩
          have bzc := bzE.below hbc bzE.lt
          clear d0 d1 d2 d3 d4 d5 d6 d7 d8 d9 d10 d11
          go_wp2_with (first | (refine wpList_boxStore (us := [.slice (ac 0) (mc 0) (cc 0),.slice (ac 1) (mc 1) (cc 1),.slice (ac 2) (mc 2) (cc 2),.slice (ac 3) (mc 3) (cc 3),.slice (ac 4) (mc 4) (cc 4),.slice (ac 5) (mc 5) (cc 5),.slice (ac 6) (mc 6) (cc 6),.slice (ac 7) (mc 7) (cc 7),.slice (ac 8) (mc 8) (cc 8),.slice (ac 9) (mc 9) (cc 9),.slice (ac 10) (mc 10) (cc 10),.slice (ac 11) (mc 11) (cc 11)]) (by kernel_rfl) rfl rfl rfl rfl rfl rfl bzc rfl (fun W9 hg9 bx9 => ?_)) | fail)
          have bx9' : StB W9 (w.heap.size + 2) ac mc cc := bx9
          have d0 := bx9'.cell (i := 0) rfl
          have d1 := bx9'.cell (i := 1) rfl
          have d2 := bx9'.cell (i := 2) rfl
          have d3 := bx9'.cell (i := 3) rfl
          have d4 := bx9'.cell (i := 4) rfl
          have d5 := bx9'.cell (i := 5) rfl
          have d6 := bx9'.cell (i := 6) rfl
          have d7 := bx9'.cell (i := 7) rfl
          have d8 := bx9'.cell (i := 8) rfl
          have d9 := bx9'.cell (i := 9) rfl
          have d10 := bx9'.cell (i := 10) rfl
          have d11 := bx9'.cell (i := 11) rfl
          refine bodyPost_ret (v := .tuple #[.agg #[.slice (ac 0) (mc 0) (cc 0),.slice (ac 1) (mc 1) (cc 1),.slice (ac 2) (mc 2) (cc 2),.slice (ac 3) (mc 3) (cc 3),.slice (ac 4) (mc 4) (cc 4),.slice (ac 5) (mc 5) (cc 5),.slice (ac 6) (mc 6) (cc 6),.slice (ac 7) (mc 7) (cc 7),.slice (ac 8) (mc 8) (cc 8),.slice (ac 9) (mc 9) (cc 9),.slice (ac 10) (mc 10) (cc 10),.slice (ac 11) (mc 11) (cc 11)],.int .i64 ((R.2 : Nat) : Int)]) (by simp [results,Tryz.results24,go_sem,loadVar,isAgg,run_underlying Tryz.underlying29,run_sizeOf' (show (Tryz.prog.info? 29).map (·.size) = some 12 by kernel_rfl),loadCellsFrom,Addr.add,d0,d1,d2,d3,d4,d5,d6,d7,d8,d9,d10,d11]) rfl ?_
          have hs9 := hg9.size
          have hsE := qE.size
          have hsc := hbc.size
          have hzl := bzE.lt
          have hne : ∀ k,k < Wc.heap.size → k ≠ w.heap.size + 2 → W9.heap[k]? = Wc.heap[k]? := fun k h1 h2 => hg9.block k h1 (fun e => h2 (by injection e))
          refine ⟨_,T,by rw [H2.out],⟨ac,mc,cc,rfl,fun j hj => ((hcc j hj).keep fun k hk => hne k hk.2 (by omega)).weak fun k hk => ⟨by omega,by omega⟩⟩,(qE.trans (hbc.mono hsE)).trans ⟨hg9.os,hg9.tape,hg9.output,hs9,fun k hk => hne k (by omega) (by omega)⟩,H.out⟩
       ·have hn7 : RdN (fun k => w.heap.size + 3 ≤ k) W7 (.agg #[.slice (a2 9) (m2 9) (c2 9),.slice (a2 10) (m2 10) (c2 10),.slice (a2 11) (m2 11) (c2 11)]) (T' 3) := ((hA.out 3 (by omega)).below b7).weak fun k hk => hk.1
        have hokt := hIS.ok 3 (by omega)
        have hlt : (pairsN (T' 3)).length ≤ 60 := by rw [hokt.2]; exact hIS.len 3 (by omega)
        have hct : ∀ p ∈ pairsN (T' 3),p.chain.length ≤ 900 := by rw [hokt.2]; exact fun p hp => by have := hIS.ch 3 (by omega) p hp; omega
        obtain ⟨R,hR⟩ : ∃ R,R = inst1 (Lc 3) x.key (verW x s) := ⟨_,rfl⟩
        have hRe := Lib.hid hR
        clear hR
        refine wp_region_setl (K := fun _ _ => True) (by kernel_rfl) (by kernel_rfl) [10,11,12,13,14,15] (by kernel_rfl) [lEq (.pointer (some ⟨wr.heap.size,0,none⟩)),lEq (.int .i64 x.table),lEq (.pointer (some ⟨W4.heap.size,0,none⟩)),lEq (.pointer (some ⟨W4.heap.size,9,none⟩)),lEq (.agg #[.slice (a2 9) (m2 9) (c2 9),.slice (a2 10) (m2 10) (c2 10),.slice (a2 11) (m2 11) (c2 11)]),lEq (.pointer (some ⟨wr.heap.size,1,none⟩)),lEq (.slice kA x.key.length kC),lEq (.agg #[.int .i64 x.table,.slice kA x.key.length kC,.bool x.gone,.slice vA x.val.length vC]),lEq (.int .i64 s),lEq (.agg #[.int .i64 s,.bool x.gone,.slice vA x.val.length vC]),lAny,lAny,lAny,lAny,lAny,lAny,lEq (.int .i64 (R.2 : Nat))]
         (CbL (bv ([])).toArray 5 (NodeR (InQ R)) zNode NodeB (KeyW ([])) (VerW ([])) W7) (CbL.more (stays (InQ R) ([]) ([]))) (CbS.start _)
         ⟨?o0,?o1,?o2,?o3,?o4,?o5,?o6,?o7,?o8,?o9,?o10,?o11,?o12,?o13,?o14,?o15,?o16,trivial⟩ ?fin
        case o0 =>
         refine StOp.free rfl (by kernel_rfl) (fun A va D w' hF hT hN hE hd hu hg => ?_)
         have e1 : A.eval (.tmp 11) = .pointer (some ⟨wr.heap.size,0,none⟩) := hF 11 rfl
         exact wp_fieldN wrS rfl e1 (by omega) ⟨_,rfl,rfl,Below.refl _ _⟩
        case o1 =>
         refine StOp.free rfl (by kernel_rfl) (fun A va D w' hF hT hN hE hd hu hg => ?_)
         have e1 : A.eval (.tmp 42) = .pointer (some ⟨wr.heap.size,0,none⟩) := (hT 42 0 (by simp) rfl).trans (hg ⟨0,.data⟩ (by simp) rfl rfl)
         exact wp_ld_int (k := .i64) rfl e1 (by kernel_rfl) ((bw.below (CbL.below hE) bw.lt).cell (i := 0) rfl) ⟨_,rfl,rfl,Below.refl _ _⟩
        case o2 =>
         refine StOp.free rfl (by kernel_rfl) (fun A va D w' hF hT hN hE hd hu hg => ?_)
         have e1 : A.eval (.tmp 9) = .pointer (some ⟨W4.heap.size,0,none⟩) := hF 9 rfl
         exact wp_fieldQ stF7 rfl e1 ⟨_,rfl,rfl,Below.refl _ _⟩
        case o3 =>
         refine StOp.free rfl (by kernel_rfl) (fun A va D w' hF hT hN hE hd hu hg => ?_)
         have e1 : A.eval (.tmp 44) = .pointer (some ⟨W4.heap.size,0,none⟩) := (hT 44 2 (by simp) rfl).trans (hg ⟨2,.data⟩ (by simp) rfl rfl)
         have e2 : A.eval (.tmp 43) = .int .i64 x.table := (hT 43 1 (by simp) rfl).trans (hg ⟨1,.data⟩ (by simp) rfl rfl)
         exact wp_ixP taP (k := 3) rfl e1 e2 (by omega) (by omega) ⟨_,rfl,rfl,Below.refl _ _⟩
        case o4 =>
         refine StOp.free rfl (by kernel_rfl) (fun A va D w' hF hT hN hE hd hu hg => ?_)
         have e1 : A.eval (.tmp 45) = .pointer (some ⟨W4.heap.size,9,none⟩) := (hT 45 3 (by simp) rfl).trans (hg ⟨3,.data⟩ (by simp) rfl rfl)
         exact wp_load3 nodeS7 rfl e1 ((bx.below (CbL.below hE) bx.lt).cell (i := 9) rfl) ((bx.below (CbL.below hE) bx.lt).cell (i := 10) rfl) ((bx.below (CbL.below hE) bx.lt).cell (i := 11) rfl) ⟨_,rfl,rfl,Below.refl _ _⟩
        case o5 =>
         refine StOp.free rfl (by kernel_rfl) (fun A va D w' hF hT hN hE hd hu hg => ?_)
         have e1 : A.eval (.tmp 11) = .pointer (some ⟨wr.heap.size,0,none⟩) := hF 11 rfl
         exact wp_fieldN wrS rfl e1 (by omega) ⟨_,rfl,rfl,Below.refl _ _⟩
        case o6 =>
         refine StOp.free rfl (by kernel_rfl) (fun A va D w' hF hT hN hE hd hu hg => ?_)
         have e1 : A.eval (.tmp 47) = .pointer (some ⟨wr.heap.size,1,none⟩) := (hT 47 5 (by simp) rfl).trans (hg ⟨5,.data⟩ (by simp) rfl rfl)
         exact wp_ld_slice (e := 5) rfl e1 (by kernel_rfl) ((bw.below (CbL.below hE) bw.lt).cell (i := 1) rfl) ⟨_,rfl,rfl,Below.refl _ _⟩
        case o7 =>
         refine StOp.free rfl (by kernel_rfl) (fun A va D w' hF hT hN hE hd hu hg => ?_)
         have e1 : A.eval (.tmp 11) = .pointer (some ⟨wr.heap.size,0,none⟩) := hF 11 rfl
         exact wp_load4 wrS rfl e1 ((bw.below (CbL.below hE) bw.lt).cell (i := 0) rfl) ((bw.below (CbL.below hE) bw.lt).cell (i := 1) rfl) ((bw.below (CbL.below hE) bw.lt).cell (i := 2) rfl) ((bw.below (CbL.below hE) bw.lt).cell (i := 3) rfl) ⟨_,rfl,rfl,Below.refl _ _⟩
        case o8 =>
         refine StOp.free rfl (by kernel_rfl) (fun A va D w' hF hT hN hE hd hu hg => ?_)
         have e1 : A.eval (.tmp 4) = .pointer (some ⟨w.heap.size + 1,0,none⟩) := hF 4 rfl
         exact wp_ld_int (k := .i64) rfl e1 (by kernel_rfl) (((CbL.below hE).cell (p := ⟨w.heap.size + 1,0,none⟩) bs.lt).trans bs.cell) ⟨_,rfl,rfl,Below.refl _ _⟩
        case o9 =>
         refine StOp.free rfl (by kernel_rfl) (fun A va D w' hF hT hN hE hd hu hg => ?_)
         have e1 : A.eval (.tmp 49) = .agg #[.int .i64 x.table,.slice kA x.key.length kC,.bool x.gone,.slice vA x.val.length vC] := (hT 49 7 (by simp) rfl).trans (hg ⟨7,.data⟩ (by simp) rfl rfl)
         have e2 : A.eval (.tmp 50) = .int .i64 s := (hT 50 8 (by simp) rfl).trans (hg ⟨8,.data⟩ (by simp) rfl rfl)
         refine wp_callFn rfl (enters_of Tryz.func45 (by kernel_rfl) rfl) (args := #[.agg #[.int .i64 x.table,.slice kA x.key.length kC,.bool x.gone,.slice vA x.val.length vC],.int .i64 s]) (by simp only [List.map_toArray,List.map_cons,List.map_nil,e1,e2]) ((version_any w' x kA vA kC vC s).mono ?_)
         rintro e w2 ⟨rfl,hb2⟩
         exact ⟨_,rfl,_,rfl,rfl,hb2⟩
        case o10 =>
         refine StOp.set rfl (by kernel_rfl) (fun A va D w' hF hT hN hE hd hu hg => ?_)
         have e1 : A.eval (.tmp 46) = .agg #[.slice (a2 9) (m2 9) (c2 9),.slice (a2 10) (m2 10) (c2 10),.slice (a2 11) (m2 11) (c2 11)] := (hT 46 4 (by simp) rfl).trans (hg ⟨4,.data⟩ (by simp) rfl rfl)
         have e2 : A.eval (.tmp 48) = .slice kA x.key.length kC := (hT 48 6 (by simp) rfl).trans (hg ⟨6,.data⟩ (by simp) rfl rfl)
         have e3 : A.eval (.tmp 51) = .agg #[.int .i64 s,.bool x.gone,.slice vA x.val.length vC] := (hT 51 9 (by simp) rfl).trans (hg ⟨9,.data⟩ (by simp) rfl rfl)
         have hE2 := hE
         simp only [told,List.map_cons,List.map_nil,hN,Bool.false_eq_true,if_false] at hE2
         have hBE := hE2.be
         refine wp_callFn rfl (enters_of Tryz.func48 (by kernel_rfl) rfl) (args := #[.agg #[.slice (a2 9) (m2 9) (c2 9),.slice (a2 10) (m2 10) (c2 10),.slice (a2 11) (m2 11) (c2 11)],.slice kA x.key.length kC,.agg #[.int .i64 s,.bool x.gone,.slice vA x.val.length vC]]) (by simp only [List.map_toArray,List.map_cons,List.map_nil,e1,e2,e3]) ((sInstd_any w' (hn7.below hBE) hokt.1 hlt hct (hk7.below hBE) hb16 (x := verW x s) (hv7.below hBE) hmay).mono ?_)
         rintro e w2 ⟨u,mm,rfl,hrd,hb2,hz⟩
         rw [hokt.2,← hRe.out] at hz ⊢
         have h5 := CbS.call (stays (InQ R) ([]) ([])) hE2 (by simp) hb2 (v := u) (e := .int .i64 (R.2 : Nat)) ⟨mm,_,rfl,⟨rfl,hz⟩,hrd⟩
         exact ⟨_,rfl,_,rfl,by simpa [CbL,told,don,upd,bv_length] using h5,trivial⟩
        case o11 =>
         refine StOp.set rfl (by kernel_rfl) (fun A va D w' hF hT hN hE hd hu hg => ?_)
         have x1 : A.eval (.tmp 52) = va 10 := hT 52 10 (by simp) rfl
         have hE2 := hE
         have d10 : D 10 = true := hd ⟨10,.data⟩ (by simp) rfl
         simp only [told,List.map_cons,List.map_nil,hN,d10,Bool.false_eq_true,if_false,if_true] at hE2
         have h5 := CbS.move hE2
         exact BigFrame.wp_move _ rfl ⟨_,rfl,by rw [x1]; simpa [CbL,told,don,upd,bv_length,d10] using h5,trivial⟩
        case o12 =>
         refine StOp.set rfl (by kernel_rfl) (fun A va D w' hF hT hN hE hd hu hg => ?_)
         have x1 : A.eval (.tmp 41) = va 11 := hT 41 11 (by simp) rfl
         have hE2 := hE
         have d11 : D 11 = true := hd ⟨11,.data⟩ (by simp) rfl
         simp only [told,List.map_cons,List.map_nil,hN,d11,Bool.false_eq_true,if_false,if_true] at hE2
         obtain ⟨v,e,em⟩ := CbS.tup hE2
         rw [em] at hE2
         have h5 := CbS.ex0 hE2
         exact wp_ex rfl (x1.trans em) rfl ⟨_,rfl,by simpa [CbL,told,don,upd,d11,em] using h5,trivial⟩
        case o13 =>
         refine StOp.set rfl (by kernel_rfl) (fun A va D w' hF hT hN hE hd hu hg => ?_)
         have x1 : A.eval (.tmp 41) = va 11 := hT 41 11 (by simp) rfl
         have hE2 := hE
         have d11 : D 11 = true := hd ⟨11,.data⟩ (by simp) rfl
         simp only [told,List.map_cons,List.map_nil,hN,d11,Bool.false_eq_true,if_false,if_true] at hE2
         obtain ⟨v,e,em⟩ := CbS.tup hE2
         rw [em] at hE2
         have h5 := CbS.ex1 hE2
         exact wp_ex rfl (x1.trans em) rfl ⟨_,rfl,by simpa [CbL,told,don,upd,d11,em] using h5,trivial⟩
        case o14 =>
         refine StOp.set rfl (by kernel_rfl) (fun A va D w' hF hT hN hE hd hu hg => ?_)
         have hE2 := hE
         simp only [told,List.map_cons,List.map_nil,hN,Bool.false_eq_true,if_false] at hE2
         refine wp_allocN rfl (fun w2 hb2 hz => ⟨_,rfl,?_,trivial⟩)
         have h5 := CbS.alloc (stays (InQ R) ([]) ([])) hE2 hb2 hz
         simpa [CbL,told,don,upd,bv_length] using h5
        case o15 =>
         refine StOp.set rfl (by kernel_rfl) (fun A va D w' hF hT hN hE hd hu hg => ?_)
         have x1 : A.eval (.tmp 12) = va 14 := hT 12 14 (by simp) rfl
         have x2 : A.eval (.tmp 53) = va 12 := hT 53 12 (by simp) rfl
         have hE2 := hE
         have d14 : D 14 = true := hd ⟨14,.data⟩ (by simp) rfl
         have d12 : D 12 = true := hd ⟨12,.data⟩ (by simp) rfl
         simp only [told,List.map_cons,List.map_nil,hN,d14,d12,Bool.false_eq_true,if_false,if_true] at hE2
         obtain ⟨b,eb,hb0⟩ := CbS.box hE2
         obtain ⟨e,hm⟩ := hE2.mx _ rfl
         obtain ⟨v,e2,ec,n2,er,_,_,hrd⟩ := hE2.rr _ (hE2.mv _ hm)
         obtain ⟨A1,B1,A2,B2,A3,B3,ev,_⟩ := id hrd
         injection ec with ec
         injection ec with ec
         injection ec with ec _
         rw [← ec] at ev
         refine wp_storeT rfl (x1.trans eb) (x2.trans ev) rfl rfl rfl hb0 (fun w2 hg2 ht2 => ⟨_,rfl,?_,trivial⟩)
         rw [eb] at hE2
         have h5 := CbS.sto (u := undef) (stays (InQ R) ([]) ([])) hE2 hg2 ⟨_,_,_,ev,ht2⟩
         simpa [CbL,told,don,upd,d14,d12,eb] using h5
        case o16 =>
         refine StOp.free rfl (by kernel_rfl) (fun A va D w' hF hT hN hE hd hu hg => ?_)
         have x1 : A.eval (.tmp 54) = va 13 := hT 54 13 (by simp) rfl
         have hE2 := hE
         have d13 : D 13 = true := hd ⟨13,.data⟩ (by simp) rfl
         simp only [told,List.map_cons,List.map_nil,d13,if_true] at hE2
         have ee := CbS.err hE2 (fun n er hQ => hQ.1)
         exact BigFrame.wp_assign _ rfl ⟨_,rfl,x1.trans ee,Below.refl _ _⟩
        case fin =>
         intro vs1 W1 hE hG
         obtain ⟨bM,ez,em,ec,hbM,hBx,hR,hbE⟩ := CbS.done (nodeR _) hE (by simp)
         obtain ⟨nM,er,ee,hQ,hM⟩ := hR
         have her : er = R.2 := hQ.1
         rw [her] at ee hQ
         clear her
         obtain ⟨x1,y1,z1,ev,hTM⟩ := hBx
         have g0 : vs1 0 = .pointer (some ⟨wr.heap.size,0,none⟩) := hG 0 (by decide) rfl
         have g1 : vs1 1 = .int .i64 x.table := hG 1 (by decide) rfl
         have g2 : vs1 2 = .pointer (some ⟨W4.heap.size,0,none⟩) := hG 2 (by decide) rfl
         have g3 : vs1 3 = .pointer (some ⟨W4.heap.size,9,none⟩) := hG 3 (by decide) rfl
         have g4 : vs1 4 = .agg #[.slice (a2 9) (m2 9) (c2 9),.slice (a2 10) (m2 10) (c2 10),.slice (a2 11) (m2 11) (c2 11)] := hG 4 (by decide) rfl
         have g5 : vs1 5 = .pointer (some ⟨wr.heap.size,1,none⟩) := hG 5 (by decide) rfl
         have g6 : vs1 6 = .slice kA x.key.length kC := hG 6 (by decide) rfl
         have g7 : vs1 7 = .agg #[.int .i64 x.table,.slice kA x.key.length kC,.bool x.gone,.slice vA x.val.length vC] := hG 7 (by decide) rfl
         have g8 : vs1 8 = .int .i64 s := hG 8 (by decide) rfl
         have g9 : vs1 9 = .agg #[.int .i64 s,.bool x.gone,.slice vA x.val.length vC] := hG 9 (by decide) rfl
         have g16 : vs1 16 = .int .i64 (R.2 : Nat) := hG 16 (by decide) rfl
         simp only [putAll,g0,g1,g2,g3,g4,g5,g6,g7,g8,g9,g16,ec,em,ev,ee,ez]
         rw [ev] at hM
         obtain ⟨A1,B1,A3,B3,A5,B5,e3,_,_,_⟩ := id hM
         injection e3 with e3
         injection e3 with e3
         injection e3 with e4 e3
         injection e3 with e5 e3
         injection e3 with e6 _
         subst e4 e5 e6
         clear hE hG ec em ev ee ez g0 g1 g2 g3 g4 g5 g6 g7 g8 g9 g16
         have hs1 := hbE.size
         go_simp
         have q1 : Below w.heap.size w W1 := (qw.trans (b7.mono (by omega))).trans (hbE.mono (by omega))
         have ht' : x.table.toNat = 3 := by rw [ht]; rfl
         by_cases hz : R.2 = 0
         ·have dz : ((R.2 : Int) != 0) = false := by rw [hz]; rfl
          have hmM := hQ.2 hz
          have hst := hIS.step hlt0 (hno.out _ (List.getElem_mem hlt0)) (by rw [← hxe.out,ht',← hRe.out]; exact hz) (m := nM) (by rw [← hxe.out,ht',← hRe.out]; exact hmM)
          rw [← hxe.out,ht',← hRe.out] at hst
          replace hst := Lib.hid hst
          have bx1 : StB W1 W4.heap.size a2 m2 c2 := bx.below hbE bx.lt
          have bw1 := bw.below hbE bw.lt
          have y0 := hTM.cell0
          have y1 := hTM.cell1
          have y2 := hTM.cell2
          have x0 := bw1.cell (i := 0) rfl
          have hbl := bx.lt
          have hA1 : ∀ j,j < 4 → RdN (fun k => w.heap.size + 3 ≤ k ∧ k < wr.heap.size ∧ k ≠ W4.heap.size) W1 (.agg #[.slice (a2 (3 * j)) (m2 (3 * j)) (c2 (3 * j)),.slice (a2 (3 * j + 1)) (m2 (3 * j + 1)) (c2 (3 * j + 1)),.slice (a2 (3 * j + 2)) (m2 (3 * j + 2)) (c2 (3 * j + 2))]) (T' j) := fun j hj => (hA.out j hj).keep fun k hk => (hbE.block k (by omega)).trans (b7.block k hk.2.1)
          replace hA1 := Lib.hid hA1
          have hM1 := Lib.hid (hM.weak (S' := fun k => w.heap.size + 3 ≤ k ∧ k < W1.heap.size ∧ k ≠ W4.heap.size) fun k hk => by
           have h1 := hk.1
           have h2 := hk.2.1
           exact ⟨by omega,h2,by omega⟩)
          replace hz := Lib.hid hz
          replace hmM := Lib.hid hmM
          clear hM hQ
          go_wp2_with (first | (refine wpList_ixP taP 3 rfl rfl rfl rfl (by omega) (by omega) ?_) | (refine wpList_boxPut (us := [.slice A1 nM.keys.length B1,.slice A3 nM.chains.length B3,.slice A5 nM.kids.length B5]) (by kernel_rfl) rfl rfl rfl rfl rfl rfl bx1 (by show _ ≤ 12; simp) (fun W9 hg9 bx9 => ?_)) | fail)
          go_roundw
          case rel =>
           have hs9 := hg9.size
           have hk9 : ∀ k,k < W1.heap.size → k ≠ W4.heap.size → W9.heap[k]? = W1.heap[k]? := fun k h1 h2 => hg9.block k h1 (fun e => h2 (by injection e))
           have hb9 : Below W4.heap.size W1 W9 := ⟨hg9.os,hg9.tape,hg9.output,hs9,fun k hk => hk9 k (by omega) (by omega)⟩
           refine ⟨i + 1,fun j => if j = 9 then A1 else if j = 10 then A3 else if j = 11 then A5 else a2 j,fun j => if j = 9 then nM.keys.length else if j = 10 then nM.chains.length else if j = 11 then nM.kids.length else m2 j,fun j => if j = 9 then B1 else if j = 10 then B3 else if j = 11 then B5 else c2 j,_,_,by go_num,by omega,((hb.trans (b7.mono (by omega))).trans (hbE.mono (by omega))).trans hb9,bx9,hst.out,fun j hj => ?_⟩
           match j,hj with
           | 0,_ => exact (((hA1.out 0 (by omega)).keep fun k hk => hk9 k (by omega) hk.2.2).weak fun k hk => ⟨hk.1,by omega,hk.2.2⟩)
           | 1,_ => exact (((hA1.out 1 (by omega)).keep fun k hk => hk9 k (by omega) hk.2.2).weak fun k hk => ⟨hk.1,by omega,hk.2.2⟩)
           | 2,_ => exact (((hA1.out 2 (by omega)).keep fun k hk => hk9 k (by omega) hk.2.2).weak fun k hk => ⟨hk.1,by omega,hk.2.2⟩)
           | 3,_ => exact ((hM1.out.keep fun k hk => hk9 k hk.2.1 hk.2.2).weak fun k hk => ⟨hk.1,by omega,hk.2.2⟩)
           | j + 4,hj => omega
          case measure => simp [toN]; omega
         ·have dz : ((R.2 : Int) != 0) = true := by rw [bne_iff_ne]; omega
          have H2 := Lib.hid (show (instI T s l).2 = R.2 from by
           have h := hIS.err hlt0 (by rw [← hxe.out,ht',← hRe.out]; exact hz)
           rw [← hxe.out,ht',← hRe.out] at h
           rw [hII.out,h])
          have H := Lib.hid (InT.err (K := K) (show (instI T s l).2 ≠ 0 by rw [H2.out]; exact hz))
          have hbB : Below W4.heap.size W5 W1 := (hb.trans (b7.mono (by omega))).trans (hbE.mono (by omega))
          have qE := q1
          have bnE : StB W1 w.heap.size a m c := (hbB.block _ (by omega)).trans bn5
          have bzE : BoxN W1 (w.heap.size + 2) 29 [.slice none 0 0,.slice none 0 0,.slice none 0 0,.slice none 0 0,.slice none 0 0,.slice none 0 0,.slice none 0 0,.slice none 0 0,.slice none 0 0,.slice none 0 0,.slice none 0 0,.slice none 0 0] := (hbB.block _ (by have := bz5.lt; omega)).trans bz5
          replace hz := Lib.hid hz
          go_upto_region 10 with (fail)
          have hcp := sCopied_any W1 (hr0.below qE) hf
          have d0 := bnE.cell (i := 0) rfl
          have d1 := bnE.cell (i := 1) rfl
          have d2 := bnE.cell (i := 2) rfl
          have d3 := bnE.cell (i := 3) rfl
          have d4 := bnE.cell (i := 4) rfl
          have d5 := bnE.cell (i := 5) rfl
          have d6 := bnE.cell (i := 6) rfl
          have d7 := bnE.cell (i := 7) rfl
          have d8 := bnE.cell (i := 8) rfl
          have d9 := bnE.cell (i := 9) rfl
          have d10 := bnE.cell (i := 10) rfl
          have d11 := bnE.cell (i := 11) rfl
          go_wp2_with fail
          refine hcp.mono ?_
          rintro e Wc ⟨vc,rfl,⟨ac,mc,cc,rfl,hcc⟩,hbc⟩
          have bzc := bzE.below hbc bzE.lt
          clear d0 d1 d2 d3 d4 d5 d6 d7 d8 d9 d10 d11
          go_wp2_with (first | (refine wpList_boxStore (us := [.slice (ac 0) (mc 0) (cc 0),.slice (ac 1) (mc 1) (cc 1),.slice (ac 2) (mc 2) (cc 2),.slice (ac 3) (mc 3) (cc 3),.slice (ac 4) (mc 4) (cc 4),.slice (ac 5) (mc 5) (cc 5),.slice (ac 6) (mc 6) (cc 6),.slice (ac 7) (mc 7) (cc 7),.slice (ac 8) (mc 8) (cc 8),.slice (ac 9) (mc 9) (cc 9),.slice (ac 10) (mc 10) (cc 10),.slice (ac 11) (mc 11) (cc 11)]) (by kernel_rfl) rfl rfl rfl rfl rfl rfl bzc rfl (fun W9 hg9 bx9 => ?_)) | fail)
          have bx9' : StB W9 (w.heap.size + 2) ac mc cc := bx9
          have d0 := bx9'.cell (i := 0) rfl
          have d1 := bx9'.cell (i := 1) rfl
          have d2 := bx9'.cell (i := 2) rfl
          have d3 := bx9'.cell (i := 3) rfl
          have d4 := bx9'.cell (i := 4) rfl
          have d5 := bx9'.cell (i := 5) rfl
          have d6 := bx9'.cell (i := 6) rfl
          have d7 := bx9'.cell (i := 7) rfl
          have d8 := bx9'.cell (i := 8) rfl
          have d9 := bx9'.cell (i := 9) rfl
          have d10 := bx9'.cell (i := 10) rfl
          have d11 := bx9'.cell (i := 11) rfl
          refine bodyPost_ret (v := .tuple #[.agg #[.slice (ac 0) (mc 0) (cc 0),.slice (ac 1) (mc 1) (cc 1),.slice (ac 2) (mc 2) (cc 2),.slice (ac 3) (mc 3) (cc 3),.slice (ac 4) (mc 4) (cc 4),.slice (ac 5) (mc 5) (cc 5),.slice (ac 6) (mc 6) (cc 6),.slice (ac 7) (mc 7) (cc 7),.slice (ac 8) (mc 8) (cc 8),.slice (ac 9) (mc 9) (cc 9),.slice (ac 10) (mc 10) (cc 10),.slice (ac 11) (mc 11) (cc 11)],.int .i64 ((R.2 : Nat) : Int)]) (by simp [results,Tryz.results24,go_sem,loadVar,isAgg,run_underlying Tryz.underlying29,run_sizeOf' (show (Tryz.prog.info? 29).map (·.size) = some 12 by kernel_rfl),loadCellsFrom,Addr.add,d0,d1,d2,d3,d4,d5,d6,d7,d8,d9,d10,d11]) rfl ?_
          have hs9 := hg9.size
          have hsE := qE.size
          have hsc := hbc.size
          have hzl := bzE.lt
          have hne : ∀ k,k < Wc.heap.size → k ≠ w.heap.size + 2 → W9.heap[k]? = Wc.heap[k]? := fun k h1 h2 => hg9.block k h1 (fun e => h2 (by injection e))
          refine ⟨_,T,by rw [H2.out],⟨ac,mc,cc,rfl,fun j hj => ((hcc j hj).keep fun k hk => hne k hk.2 (by omega)).weak fun k hk => ⟨by omega,by omega⟩⟩,(qE.trans (hbc.mono hsE)).trans ⟨hg9.os,hg9.tape,hg9.output,hs9,fun k hk => hne k (by omega) (by omega)⟩,H.out⟩
      ·obtain rfl : i = l.length := by omega
       have dl : decide ((l.length : Int) < (l.length : Int)) = false := by simp
       have H2 := Lib.hid (show instI T s l = (Lc,0) from by rw [hII.out,hIS.done])
       have bzr := bz5.below hb (by have := bz5.lt; omega)
       have hzl := bzr.lt
       have d0 := bx.cell (i := 0) rfl
       have d1 := bx.cell (i := 1) rfl
       have d2 := bx.cell (i := 2) rfl
       have d3 := bx.cell (i := 3) rfl
       have d4 := bx.cell (i := 4) rfl
       have d5 := bx.cell (i := 5) rfl
       have d6 := bx.cell (i := 6) rfl
       have d7 := bx.cell (i := 7) rfl
       have d8 := bx.cell (i := 8) rfl
       have d9 := bx.cell (i := 9) rfl
       have d10 := bx.cell (i := 10) rfl
       have d11 := bx.cell (i := 11) rfl
       go_wp2_with (first | (refine wpList_boxStore (us := [.slice (a2 0) (m2 0) (c2 0),.slice (a2 1) (m2 1) (c2 1),.slice (a2 2) (m2 2) (c2 2),.slice (a2 3) (m2 3) (c2 3),.slice (a2 4) (m2 4) (c2 4),.slice (a2 5) (m2 5) (c2 5),.slice (a2 6) (m2 6) (c2 6),.slice (a2 7) (m2 7) (c2 7),.slice (a2 8) (m2 8) (c2 8),.slice (a2 9) (m2 9) (c2 9),.slice (a2 10) (m2 10) (c2 10),.slice (a2 11) (m2 11) (c2 11)]) (by kernel_rfl) rfl rfl rfl rfl rfl rfl bzr rfl (fun W9 hg9 bx9 => ?_)) | fail)
       clear d0 d1 d2 d3 d4 d5 d6 d7 d8 d9 d10 d11
       have bx9' : StB W9 (w.heap.size + 2) a2 m2 c2 := bx9
       have d0 := bx9'.cell (i := 0) rfl
       have d1 := bx9'.cell (i := 1) rfl
       have d2 := bx9'.cell (i := 2) rfl
       have d3 := bx9'.cell (i := 3) rfl
       have d4 := bx9'.cell (i := 4) rfl
       have d5 := bx9'.cell (i := 5) rfl
       have d6 := bx9'.cell (i := 6) rfl
       have d7 := bx9'.cell (i := 7) rfl
       have d8 := bx9'.cell (i := 8) rfl
       have d9 := bx9'.cell (i := 9) rfl
       have d10 := bx9'.cell (i := 10) rfl
       have d11 := bx9'.cell (i := 11) rfl
       refine bodyPost_ret (v := .tuple #[.agg #[.slice (a2 0) (m2 0) (c2 0),.slice (a2 1) (m2 1) (c2 1),.slice (a2 2) (m2 2) (c2 2),.slice (a2 3) (m2 3) (c2 3),.slice (a2 4) (m2 4) (c2 4),.slice (a2 5) (m2 5) (c2 5),.slice (a2 6) (m2 6) (c2 6),.slice (a2 7) (m2 7) (c2 7),.slice (a2 8) (m2 8) (c2 8),.slice (a2 9) (m2 9) (c2 9),.slice (a2 10) (m2 10) (c2 10),.slice (a2 11) (m2 11) (c2 11)],.int .i64 0]) (by simp [results,Tryz.results24,go_sem,loadVar,isAgg,run_underlying Tryz.underlying29,run_sizeOf' (show (Tryz.prog.info? 29).map (·.size) = some 12 by kernel_rfl),loadCellsFrom,Addr.add,d0,d1,d2,d3,d4,d5,d6,d7,d8,d9,d10,d11]) rfl ?_
       have hs9 := hg9.size
       have hne : ∀ k,k < wr.heap.size → k ≠ w.heap.size + 2 → W9.heap[k]? = wr.heap[k]? := fun k h1 h2 => hg9.block k h1 (fun e => h2 (by injection e))
       refine ⟨_,T',by rw [H2.out]; rfl,⟨a2,m2,c2,rfl,fun j hj => ((hA.out j hj).keep fun k hk => hne k hk.2.1 (by omega)).weak fun k hk => ⟨by omega,by omega⟩⟩,qw.trans ⟨hg9.os,hg9.tape,hg9.output,hs9,fun k hk => hne k (by omega) (by omega)⟩,fun h => absurd (by rw [H2.out]) h,fun _ => ⟨hok,fun j hj => ?_⟩⟩
       rw [H2.out]
       obtain ⟨p1,p2⟩ := hIS.ok j hj
       exact ⟨p1,p2,by rw [p2]; exact hIS.len j hj,by rw [p2]; exact hIS.ch j hj⟩
   ·have e2 : decide (2147483647 < s) = true := by simp; omega
    have H2 := Lib.hid (show (instI T s l).2 = 1 from by unfold instI; rw [if_neg (fun h => h2 h.2.2.1)])
    have H := Lib.hid (InT.err (K := K) (show (instI T s l).2 ≠ 0 by rw [H2.out]; simp))
    clear h1 h2 hok
    go_upto_region 3 with (fail)
    clear ss
    have qE := q2
    have bnE := bn2
    have bzE := bz2
    have hcp := sCopied_any W2 (hr0.below qE) hf
    have d0 := bnE.cell (i := 0) rfl
    have d1 := bnE.cell (i := 1) rfl
    have d2 := bnE.cell (i := 2) rfl
    have d3 := bnE.cell (i := 3) rfl
    have d4 := bnE.cell (i := 4) rfl
    have d5 := bnE.cell (i := 5) rfl
    have d6 := bnE.cell (i := 6) rfl
    have d7 := bnE.cell (i := 7) rfl
    have d8 := bnE.cell (i := 8) rfl
    have d9 := bnE.cell (i := 9) rfl
    have d10 := bnE.cell (i := 10) rfl
    have d11 := bnE.cell (i := 11) rfl
    go_wp2_with fail
    refine hcp.mono ?_
    rintro e Wc ⟨vc,rfl,⟨ac,mc,cc,rfl,hcc⟩,hbc⟩
    have bzc := bzE.below hbc bzE.lt
    clear d0 d1 d2 d3 d4 d5 d6 d7 d8 d9 d10 d11
    go_wp2_with (first | (refine wpList_boxStore (us := [.slice (ac 0) (mc 0) (cc 0),.slice (ac 1) (mc 1) (cc 1),.slice (ac 2) (mc 2) (cc 2),.slice (ac 3) (mc 3) (cc 3),.slice (ac 4) (mc 4) (cc 4),.slice (ac 5) (mc 5) (cc 5),.slice (ac 6) (mc 6) (cc 6),.slice (ac 7) (mc 7) (cc 7),.slice (ac 8) (mc 8) (cc 8),.slice (ac 9) (mc 9) (cc 9),.slice (ac 10) (mc 10) (cc 10),.slice (ac 11) (mc 11) (cc 11)]) (by kernel_rfl) rfl rfl rfl rfl rfl rfl bzc rfl (fun W9 hg9 bx9 => ?_)) | fail)
    have bx9' : StB W9 (w.heap.size + 2) ac mc cc := bx9
    have d0 := bx9'.cell (i := 0) rfl
    have d1 := bx9'.cell (i := 1) rfl
    have d2 := bx9'.cell (i := 2) rfl
    have d3 := bx9'.cell (i := 3) rfl
    have d4 := bx9'.cell (i := 4) rfl
    have d5 := bx9'.cell (i := 5) rfl
    have d6 := bx9'.cell (i := 6) rfl
    have d7 := bx9'.cell (i := 7) rfl
    have d8 := bx9'.cell (i := 8) rfl
    have d9 := bx9'.cell (i := 9) rfl
    have d10 := bx9'.cell (i := 10) rfl
    have d11 := bx9'.cell (i := 11) rfl
    refine bodyPost_ret (v := .tuple #[.agg #[.slice (ac 0) (mc 0) (cc 0),.slice (ac 1) (mc 1) (cc 1),.slice (ac 2) (mc 2) (cc 2),.slice (ac 3) (mc 3) (cc 3),.slice (ac 4) (mc 4) (cc 4),.slice (ac 5) (mc 5) (cc 5),.slice (ac 6) (mc 6) (cc 6),.slice (ac 7) (mc 7) (cc 7),.slice (ac 8) (mc 8) (cc 8),.slice (ac 9) (mc 9) (cc 9),.slice (ac 10) (mc 10) (cc 10),.slice (ac 11) (mc 11) (cc 11)],.int .i64 1]) (by simp [results,Tryz.results24,go_sem,loadVar,isAgg,run_underlying Tryz.underlying29,run_sizeOf' (show (Tryz.prog.info? 29).map (·.size) = some 12 by kernel_rfl),loadCellsFrom,Addr.add,d0,d1,d2,d3,d4,d5,d6,d7,d8,d9,d10,d11]) rfl ?_
    have hs9 := hg9.size
    have hsE := qE.size
    have hsc := hbc.size
    have hzl := bzE.lt
    have hne : ∀ k,k < Wc.heap.size → k ≠ w.heap.size + 2 → W9.heap[k]? = Wc.heap[k]? := fun k h1 h2 => hg9.block k h1 (fun e => h2 (by injection e))
    refine ⟨_,T,by rw [H2.out]; rfl,⟨ac,mc,cc,rfl,fun j hj => ((hcc j hj).keep fun k hk => hne k hk.2 (by omega)).weak fun k hk => ⟨by omega,by omega⟩⟩,(qE.trans (hbc.mono hsE)).trans ⟨hg9.os,hg9.tape,hg9.output,hs9,fun k hk => hne k (by omega) (by omega)⟩,H.out⟩
  ·have e1 : decide (s < 1) = true := by simp; omega
   have H2 := Lib.hid (show (instI T s l).2 = 1 from by unfold instI; rw [if_neg (fun h => h1 h.2.1)])
   have H := Lib.hid (InT.err (K := K) (show (instI T s l).2 ≠ 0 by rw [H2.out]; simp))
   clear h1 hok
   go_upto_region 3 with (fail)
   clear ss
   have qE := q2
   have bnE := bn2
   have bzE := bz2
   have hcp := sCopied_any W2 (hr0.below qE) hf
   have d0 := bnE.cell (i := 0) rfl
   have d1 := bnE.cell (i := 1) rfl
   have d2 := bnE.cell (i := 2) rfl
   have d3 := bnE.cell (i := 3) rfl
   have d4 := bnE.cell (i := 4) rfl
   have d5 := bnE.cell (i := 5) rfl
   have d6 := bnE.cell (i := 6) rfl
   have d7 := bnE.cell (i := 7) rfl
   have d8 := bnE.cell (i := 8) rfl
   have d9 := bnE.cell (i := 9) rfl
   have d10 := bnE.cell (i := 10) rfl
   have d11 := bnE.cell (i := 11) rfl
   go_wp2_with fail
   refine hcp.mono ?_
   rintro e Wc ⟨vc,rfl,⟨ac,mc,cc,rfl,hcc⟩,hbc⟩
   have bzc := bzE.below hbc bzE.lt
   clear d0 d1 d2 d3 d4 d5 d6 d7 d8 d9 d10 d11
   go_wp2_with (first | (refine wpList_boxStore (us := [.slice (ac 0) (mc 0) (cc 0),.slice (ac 1) (mc 1) (cc 1),.slice (ac 2) (mc 2) (cc 2),.slice (ac 3) (mc 3) (cc 3),.slice (ac 4) (mc 4) (cc 4),.slice (ac 5) (mc 5) (cc 5),.slice (ac 6) (mc 6) (cc 6),.slice (ac 7) (mc 7) (cc 7),.slice (ac 8) (mc 8) (cc 8),.slice (ac 9) (mc 9) (cc 9),.slice (ac 10) (mc 10) (cc 10),.slice (ac 11) (mc 11) (cc 11)]) (by kernel_rfl) rfl rfl rfl rfl rfl rfl bzc rfl (fun W9 hg9 bx9 => ?_)) | fail)
   have bx9' : StB W9 (w.heap.size + 2) ac mc cc := bx9
   have d0 := bx9'.cell (i := 0) rfl
   have d1 := bx9'.cell (i := 1) rfl
   have d2 := bx9'.cell (i := 2) rfl
   have d3 := bx9'.cell (i := 3) rfl
   have d4 := bx9'.cell (i := 4) rfl
   have d5 := bx9'.cell (i := 5) rfl
   have d6 := bx9'.cell (i := 6) rfl
   have d7 := bx9'.cell (i := 7) rfl
   have d8 := bx9'.cell (i := 8) rfl
   have d9 := bx9'.cell (i := 9) rfl
   have d10 := bx9'.cell (i := 10) rfl
   have d11 := bx9'.cell (i := 11) rfl
   refine bodyPost_ret (v := .tuple #[.agg #[.slice (ac 0) (mc 0) (cc 0),.slice (ac 1) (mc 1) (cc 1),.slice (ac 2) (mc 2) (cc 2),.slice (ac 3) (mc 3) (cc 3),.slice (ac 4) (mc 4) (cc 4),.slice (ac 5) (mc 5) (cc 5),.slice (ac 6) (mc 6) (cc 6),.slice (ac 7) (mc 7) (cc 7),.slice (ac 8) (mc 8) (cc 8),.slice (ac 9) (mc 9) (cc 9),.slice (ac 10) (mc 10) (cc 10),.slice (ac 11) (mc 11) (cc 11)],.int .i64 1]) (by simp [results,Tryz.results24,go_sem,loadVar,isAgg,run_underlying Tryz.underlying29,run_sizeOf' (show (Tryz.prog.info? 29).map (·.size) = some 12 by kernel_rfl),loadCellsFrom,Addr.add,d0,d1,d2,d3,d4,d5,d6,d7,d8,d9,d10,d11]) rfl ?_
   have hs9 := hg9.size
   have hsE := qE.size
   have hsc := hbc.size
   have hzl := bzE.lt
   have hne : ∀ k,k < Wc.heap.size → k ≠ w.heap.size + 2 → W9.heap[k]? = Wc.heap[k]? := fun k h1 h2 => hg9.block k h1 (fun e => h2 (by injection e))
   refine ⟨_,T,by rw [H2.out]; rfl,⟨ac,mc,cc,rfl,fun j hj => ((hcc j hj).keep fun k hk => hne k hk.2 (by omega)).weak fun k hk => ⟨by omega,by omega⟩⟩,(qE.trans (hbc.mono hsE)).trans ⟨hg9.os,hg9.tape,hg9.output,hs9,fun k hk => hne k (by omega) (by omega)⟩,H.out⟩
 ·rw [decide_eq_false hok] at hch
  have H2 := Lib.hid (show (instI T s l).2 = 1 from by unfold instI; rw [if_neg (fun h => hok h.1)])
  have H := Lib.hid (InT.err (K := K) (show (instI T s l).2 ≠ 0 by rw [H2.out]; simp))
  clear hok
  go_upto_region 3 with (first | (refine hch.mono ?_; rintro e W2 ⟨rfl,hb2⟩; have qE := q.trans (hb2.mono q.size); have bnE : StB W2 w.heap.size a m c := bn.below hb2 bn.lt; have bzE := bz.below hb2 bz.lt) | fail)
  clear ss d0 d1 d2 d3 d4 d5 d6 d7 d8 d9 d10 d11
  have hcp := sCopied_any W2 (hr0.below qE) hf
  have d0 := bnE.cell (i := 0) rfl
  have d1 := bnE.cell (i := 1) rfl
  have d2 := bnE.cell (i := 2) rfl
  have d3 := bnE.cell (i := 3) rfl
  have d4 := bnE.cell (i := 4) rfl
  have d5 := bnE.cell (i := 5) rfl
  have d6 := bnE.cell (i := 6) rfl
  have d7 := bnE.cell (i := 7) rfl
  have d8 := bnE.cell (i := 8) rfl
  have d9 := bnE.cell (i := 9) rfl
  have d10 := bnE.cell (i := 10) rfl
  have d11 := bnE.cell (i := 11) rfl
  go_wp2_with fail
  refine hcp.mono ?_
  rintro e Wc ⟨vc,rfl,⟨ac,mc,cc,rfl,hcc⟩,hbc⟩
  have bzc := bzE.below hbc bzE.lt
  clear d0 d1 d2 d3 d4 d5 d6 d7 d8 d9 d10 d11
  go_wp2_with (first | (refine wpList_boxStore (us := [.slice (ac 0) (mc 0) (cc 0),.slice (ac 1) (mc 1) (cc 1),.slice (ac 2) (mc 2) (cc 2),.slice (ac 3) (mc 3) (cc 3),.slice (ac 4) (mc 4) (cc 4),.slice (ac 5) (mc 5) (cc 5),.slice (ac 6) (mc 6) (cc 6),.slice (ac 7) (mc 7) (cc 7),.slice (ac 8) (mc 8) (cc 8),.slice (ac 9) (mc 9) (cc 9),.slice (ac 10) (mc 10) (cc 10),.slice (ac 11) (mc 11) (cc 11)]) (by kernel_rfl) rfl rfl rfl rfl rfl rfl bzc rfl (fun W9 hg9 bx9 => ?_)) | fail)
  have bx9' : StB W9 (w.heap.size + 2) ac mc cc := bx9
  have d0 := bx9'.cell (i := 0) rfl
  have d1 := bx9'.cell (i := 1) rfl
  have d2 := bx9'.cell (i := 2) rfl
  have d3 := bx9'.cell (i := 3) rfl
  have d4 := bx9'.cell (i := 4) rfl
  have d5 := bx9'.cell (i := 5) rfl
  have d6 := bx9'.cell (i := 6) rfl
  have d7 := bx9'.cell (i := 7) rfl
  have d8 := bx9'.cell (i := 8) rfl
  have d9 := bx9'.cell (i := 9) rfl
  have d10 := bx9'.cell (i := 10) rfl
  have d11 := bx9'.cell (i := 11) rfl
  refine bodyPost_ret (v := .tuple #[.agg #[.slice (ac 0) (mc 0) (cc 0),.slice (ac 1) (mc 1) (cc 1),.slice (ac 2) (mc 2) (cc 2),.slice (ac 3) (mc 3) (cc 3),.slice (ac 4) (mc 4) (cc 4),.slice (ac 5) (mc 5) (cc 5),.slice (ac 6) (mc 6) (cc 6),.slice (ac 7) (mc 7) (cc 7),.slice (ac 8) (mc 8) (cc 8),.slice (ac 9) (mc 9) (cc 9),.slice (ac 10) (mc 10) (cc 10),.slice (ac 11) (mc 11) (cc 11)],.int .i64 1]) (by simp [results,Tryz.results24,go_sem,loadVar,isAgg,run_underlying Tryz.underlying29,run_sizeOf' (show (Tryz.prog.info? 29).map (·.size) = some 12 by kernel_rfl),loadCellsFrom,Addr.add,d0,d1,d2,d3,d4,d5,d6,d7,d8,d9,d10,d11]) rfl ?_
  have hs9 := hg9.size
  have hsE := qE.size
  have hsc := hbc.size
  have hzl := bzE.lt
  have hne : ∀ k,k < Wc.heap.size → k ≠ w.heap.size + 2 → W9.heap[k]? = Wc.heap[k]? := fun k h1 h2 => hg9.block k h1 (fun e => h2 (by injection e))
  refine ⟨_,T,by rw [H2.out]; rfl,⟨ac,mc,cc,rfl,fun j hj => ((hcc j hj).keep fun k hk => hne k hk.2 (by omega)).weak fun k hk => ⟨by omega,by omega⟩⟩,(qE.trans (hbc.mono hsE)).trans ⟨hg9.os,hg9.tape,hg9.output,hs9,fun k hk => hne k (by omega) (by omega)⟩,H.out⟩
end Go.Proofs.YtlpfhgdnmjkngaaGreat
