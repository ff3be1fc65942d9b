/-
  TEXTS OF ONE PROOF, merged: StorePartsW.
-/
import Derived.Test.YtlpfhgdnmjkngaaGreatKv1
import Derived.Test.YtlpfhgdnmjkngaaGreatKv2
import Derived.Test.YtlpfhgdnmjkngaaGreatKv3
import Derived.Test.YtlpfhgdnmjkngaaGreatKv4
import Derived.Test.YtlpfhgdnmjkngaaGreatKv5
import Derived.Test.YtlpfhgdnmjkngaaGreatKv6
import Derived.Test.YtlpfhgdnmjkngaaGreatKv7
import Derived.Test.YtlpfhgdnmjkngaaGreatKv8
import Derived.Test.YtlpfhgdnmjkngaaGreatKv9
import Derived.Test.YtlpfhgdnmjkngaaGreatKv10
import Derived.Test.YtlpfhgdnmjkngaaGreatKv11
import Derived.Test.YtlpfhgdnmjkngaaGreatKv12
import Derived.Test.YtlpfhgdnmjkngaaGreatKv13
import Derived.Test.YtlpfhgdnmjkngaaGreatKv14
import Derived.Test.YtlpfhgdnmjkngaaGreatKv15
import Derived.Test.YtlpfhgdnmjkngaaGreatKy2
namespace Go.Proofs.YtlpfhgdnmjkngaaGreat
open Go.RowKit Go.Shelf
set_option maxRecDepth 100000
set_option maxHeartbeats 32000000
def sgVT (L:Tb):SG:=⟨fun w v=>RdTb (fun _=>True) w v L,fun _ _ _ h hb=>h.below hb⟩
def StR (T:Sto) (s:Int) (l:List Wr) (K:Nat) (S:Nat→Prop) (w:World) (v e:Value):Prop:=∃ T',RdSt S w v T'∧e=.int .i64 ((zbs T s l).2:Nat)∧InT T s l K T'
def StBx (w:World) (b:Nat) (v:Value):Prop:=∃ (a:Nat→Option Addr) (m c:Nat→Nat),v=.agg #[.slice (a 0) (m 0) (c 0),.slice (a 1) (m 1) (c 1),.slice (a 2) (m 2) (c 2),.slice (a 3) (m 3) (c 3),.slice (a 4) (m 4) (c 4),.slice (a 5) (m 5) (c 5),.slice (a 6) (m 6) (c 6),.slice (a 7) (m 7) (c 7),.slice (a 8) (m 8) (c 8),.slice (a 9) (m 9) (c 9),.slice (a 10) (m 10) (c 10),.slice (a 11) (m 11) (c 11)]∧StB w b a m c
def zSt:Obj:=.cells [.slice none 0 0,.slice none 0 0,.slice none 0 0,.slice none 0 0,.slice none 0 0,.slice none 0 0,.slice none 0 0,.slice none 0 0,.slice none 0 0,.slice none 0 0,.slice none 0 0,.slice none 0 0].toArray 29 (0,0)
def AnyS(_:Nat→Prop)(_:World)(_:Value):Prop:=True
section
variable {T : Sto} {s : Int} {l : List Wr} {K : Nat}
theorem stR:RdP (StR T s l K) where
 keep:=fun⟨t,h,e⟩hk=>⟨t,h.keep hk,e⟩
 weak:=fun⟨t,h,e⟩hk=>⟨t,h.weak hk,e⟩
theorem stStays:zpm (StR T s l K) StBx AnyS AnyS where
 toRdP:=stR
 bx:=fun⟨a,m,c,e,h⟩hb=>⟨a,m,c,e,BoxN.below h hb (BoxN.lt h)⟩
 s1:=fun _ _=>trivial
 w1:=fun _ _=>trivial
 s2:=fun _ _=>trivial
 w2:=fun _ _=>trivial
theorem CbS.errS {hk:Bool} {C0:Array Value} {E0:TypeId} {Z:Obj} {Bx:World→Nat→Value→Prop} {K1 K2:(Nat→Prop)→World→Value→Prop} {W w:World} {o0 o1 o2 c m x z s9:Option Value} {u:Value}
  (h:CbS hk C0 E0 (StR T s l K) Z Bx K1 K2 W o0 o1 o2 c m x (some u) z s9 w):u=.int .i64 ((zbs T s l).2:Nat):=by
 obtain⟨v,e1⟩:=h.my u rfl
 obtain⟨v',e',e2,_,_,e3,_⟩:=h.rr _ (h.mv _ e1)
 injection e2 with e2
 injection e2 with e2
 injection e2 with _ e2
 injection e2 with e2 _
 rw [e2,e3]
end
theorem StoreParts_w (w : World) {cs0 : Array Value} {s c : Int} {T : Sto} {la : Option Addr} {n lc : Nat} {l : List Wr} (h0 : RdSt (· < w.heap.size) w (.agg cs0) T) (h1 : (Lit.int .i64 s).wf = true) (h2 : RdL Elt.wr (· < w.heap.size) w (.slice la n lc) l) (h3 : 0 ≤ c) (h4 : c < 256) :
  Calls Tryz.prog 7 #[.agg cs0,.int .i64 s,.slice la n lc,.int .u8 c] w fun e w' => e = .returned (.bool true) ∧ Below w.heap.size w w' := by
 obtain ⟨rfl,hlc,hlm⟩ := h2.len
 have hlm2 : l.length ≤ 9223372036854775807 := by unfold maxLen at hlm; omega
 have hd := h0
 obtain ⟨aS,mS,cS,e,hS0⟩ := h0
 injection e with e
 subst e
 clear hS0
 obtain ⟨W0,hW,q,Bs,hsz⟩ := stBox w 29 [.slice (aS 0) (mS 0) (cS 0),.slice (aS 1) (mS 1) (cS 1),.slice (aS 2) (mS 2) (cS 2),.slice (aS 3) (mS 3) (cS 3),.slice (aS 4) (mS 4) (cS 4),.slice (aS 5) (mS 5) (cS 5),.slice (aS 6) (mS 6) (cS 6),.slice (aS 7) (mS 7) (cS 7),.slice (aS 8) (mS 8) (cS 8),.slice (aS 9) (mS 9) (cS 9),.slice (aS 10) (mS 10) (cS 10),.slice (aS 11) (mS 11) (cS 11)]
 clear hsz
 replace Bs : StB W0 w.heap.size aS mS cS := Bs
 go_enter Tryz.func7,Tryz.ntmps7
 go_upto_region 1 with (fail)
 rw [show w.alloc (.cells #[.slice (aS 0) (mS 0) (cS 0),.slice (aS 1) (mS 1) (cS 1),.slice (aS 2) (mS 2) (cS 2),.slice (aS 3) (mS 3) (cS 3),.slice (aS 4) (mS 4) (cS 4),.slice (aS 5) (mS 5) (cS 5),.slice (aS 6) (mS 6) (cS 6),.slice (aS 7) (mS 7) (cS 7),.slice (aS 8) (mS 8) (cS 8),.slice (aS 9) (mS 9) (cS 9),.slice (aS 10) (mS 10) (cS 10),.slice (aS 11) (mS 11) (cS 11)] 29) = W0 from hW.symm]
 clear hW
 go_wp2_with fail
 refine (zpl W0).mono ?_
 rintro e w1 ⟨rfl,hb⟩
 replace Bs := Bs.below hb Bs.lt
 replace q := q.trans (hb.mono q.size)
 clear hb
 obtain ⟨d0,d1,d2,d3,d4,d5,d6,d7,d8,d9,d10,d11⟩ := Bs.c12
 have hcl := zjq _ (hd.below q)
 go_wp2_with fail
 refine hcl.mono ?_
 rintro e ws1 ⟨rfl,hb⟩
 clear hcl d0 d1 d2 d3 d4 d5 d6 d7 d8 d9 d10 d11
 replace Bs := Bs.below hb Bs.lt
 replace q := q.trans (hb.mono q.size)
 clear hb
 by_cases hs : zfd T
 case neg =>
  rw [decide_eq_false hs]
  go_wp2_with fail
  go_ret
  exact ⟨rfl,q⟩
 rw [decide_eq_true hs]
 have hcl := few7_any _ (h2.below q)
 go_wp2_with fail
 refine hcl.mono ?_
 rintro e wf ⟨rfl,hb⟩
 clear hcl
 replace Bs := Bs.below hb Bs.lt
 replace q := q.trans (hb.mono q.size)
 clear hb
 by_cases hfw : fewW l
 case neg =>
  rw [decide_eq_false hfw]
  go_wp2_with fail
  go_ret
  exact ⟨rfl,q⟩
 rw [decide_eq_true hfw]
 have hln := hfw.1
 clear hfw
 obtain ⟨nn,hnn⟩ : ∃ k : Nat,c % ((l.length : Int) + 1) = k := ⟨(c % ((l.length : Int) + 1)).toNat,by have := Int.emod_nonneg c (show ((l.length : Int) + 1) ≠ 0 by omega); omega⟩
 have hnl : nn ≤ l.length := by have := Int.emod_lt_of_pos c (show (0 : Int) < (l.length : Int) + 1 by omega); omega
 have htm : c.tmod ((l.length : Int) + 1) = (nn : Int) := by rw [Int.tmod_eq_emod_of_nonneg h3]; exact hnn
 go_upto_region 5 with (fail)
 clear htm hnn
 have hl1 : l.take nn ++ l.drop nn = l := List.take_append_drop nn l
 obtain ⟨d0,d1,d2,d3,d4,d5,d6,d7,d8,d9,d10,d11⟩ := Bs.c12
 have hcl := zdv _ (T := T) (s := s) (l := l) (K := 20) (hd.below q) (zde hs) (wf_I64 h1) (h2.below q) (fun _ => smallS_ch hs) (by omega)
 unfold zma at hcl
 obtain ⟨erA,herA⟩ : ∃ n,n = (zbs T s l).2 := ⟨_,rfl⟩
 rw [← herA] at hcl
 replace herA := Lib.hid herA
 go_wp2_with fail
 refine hcl.mono ?_
 rintro e wcA ⟨vA,TA,rfl,⟨aA,mA,cA,rfl,hA⟩,hb,hIA⟩
 clear hcl
 replace Bs := Bs.below hb Bs.lt
 replace q := q.trans (hb.mono q.size)
 clear hb
 have rA : RdSt (fun _ => True) wcA (.agg #[.slice (aA 0) (mA 0) (cA 0),.slice (aA 1) (mA 1) (cA 1),.slice (aA 2) (mA 2) (cA 2),.slice (aA 3) (mA 3) (cA 3),.slice (aA 4) (mA 4) (cA 4),.slice (aA 5) (mA 5) (cA 5),.slice (aA 6) (mA 6) (cA 6),.slice (aA 7) (mA 7) (cA 7),.slice (aA 8) (mA 8) (cA 8),.slice (aA 9) (mA 9) (cA 9),.slice (aA 10) (mA 10) (cA 10),.slice (aA 11) (mA 11) (cA 11)]) TA := ⟨aA,mA,cA,rfl,fun i hi => (hA i hi).weak fun _ _ => trivial⟩
 clear hA
 go_upto_region 6 with (first | (refine zbf (vs := [.slice none 0 0,.slice none 0 0,.slice none 0 0,.slice none 0 0,.slice none 0 0,.slice none 0 0,.slice none 0 0,.slice none 0 0,.slice none 0 0,.slice none 0 0,.slice none 0 0,.slice none 0 0]) (by kernel_rfl) rfl rfl ?_; intro wa hba hBa) | (refine zam (us := [.slice (aA 0) (mA 0) (cA 0),.slice (aA 1) (mA 1) (cA 1),.slice (aA 2) (mA 2) (cA 2),.slice (aA 3) (mA 3) (cA 3),.slice (aA 4) (mA 4) (cA 4),.slice (aA 5) (mA 5) (cA 5),.slice (aA 6) (mA 6) (cA 6),.slice (aA 7) (mA 7) (cA 7),.slice (aA 8) (mA 8) (cA 8),.slice (aA 9) (mA 9) (cA 9),.slice (aA 10) (mA 10) (cA 10),.slice (aA 11) (mA 11) (cA 11)]) (by kernel_rfl) rfl rfl rfl rfl rfl rfl hBa rfl ?_; intro wbA hgw xA) | fail)
 try go_simp
 have hbw := hba.grown hgw hba.size fun k hk => by injection hk with hk; omega
 replace Bs := Bs.below hbw Bs.lt
 replace rA := rA.below hbw
 replace q := q.trans (hbw.mono q.size)
 clear hbw hgw hba hBa
 replace xA : StB _ _ aA mA cA := xA
 clear d0 d1 d2 d3 d4 d5 d6 d7 d8 d9 d10 d11
 have hp1 := h2.part (l := 0) (r := nn) (Nat.zero_le _) hnl
 have hp2 := h2.part (l := nn) (r := l.length) hnl (Nat.le_refl _)
 rw [List.drop_zero,Nat.sub_zero] at hp1
 rw [show (l.drop nn).take (l.length - nn) = l.drop nn from List.take_of_length_le (by rw [List.length_drop]; omega)] at hp2
 obtain ⟨A1,hA1⟩ : ∃ z,(if lc = 0 then la else la.map (·.add (0 * 4))) = z := ⟨_,rfl⟩
 obtain ⟨A2,hA2⟩ : ∃ z,(if lc = nn then la else la.map (·.add (nn * 4))) = z := ⟨_,rfl⟩
 replace hp1 : RdL Elt.wr (· < w.heap.size) w (.slice A1 nn (lc - 0)) (l.take nn) := by rw [← hA1]; exact hp1
 replace hp2 : RdL Elt.wr (· < w.heap.size) w (.slice A2 (l.length - nn) (lc - nn)) (l.drop nn) := by rw [← hA2]; exact hp2
 have eP : ∀ args w,(callFunc 24 args).run Tryz.prog w = .ok (.enter 24 args) w := enters_of Tryz.func24 (by kernel_rfl) rfl
 have eO : ∀ args w,(callFunc 15 args).run Tryz.prog w = .ok (.enter 15 args) w := enters_of Tryz.func15 (by kernel_rfl) rfl
 have eS : ∀ args w,(callFunc 26 args).run Tryz.prog w = .ok (.enter 26 args) w := enters_of Tryz.func26 (by kernel_rfl) rfl
 obtain ⟨U,hU⟩ : ∃ V,V = wbA := ⟨_,rfl⟩
 rw [← hU] at q Bs rA xA
 rw [← hU]
 clear hU
 have hdU := hd.below q
 have hpU := hp1.below q
 refine zd0 (K := fun _ _ => True) (by kernel_rfl) (by kernel_rfl) [5,6,7,8,9,10] (by kernel_rfl) [lEq (.agg #[.slice (aS 0) (mS 0) (cS 0),.slice (aS 1) (mS 1) (cS 1),.slice (aS 2) (mS 2) (cS 2),.slice (aS 3) (mS 3) (cS 3),.slice (aS 4) (mS 4) (cS 4),.slice (aS 5) (mS 5) (cS 5),.slice (aS 6) (mS 6) (cS 6),.slice (aS 7) (mS 7) (cS 7),.slice (aS 8) (mS 8) (cS 8),.slice (aS 9) (mS 9) (cS 9),.slice (aS 10) (mS 10) (cS 10),.slice (aS 11) (mS 11) (cS 11)]),lEq (.int .i64 s),lEq (.slice la l.length lc),lEq (.int .i64 (nn : Int)),lEq (.slice A1 nn (lc - 0)),lAny,lAny,lAny,lAny,lAny,lAny,lEq (.int .i64 ((zbs (T) s (l.take nn)).2 : Nat))]
  (CbL #[] 5 (StR (T) s (l.take nn) (20)) zSt StBx AnyS AnyS U) (CbL.more (stStays (T := T) (s := s) (l := l.take nn) (K := 20))) (CbS.start _)
  ⟨?o0,?o1,?o2,?o3,?o4,?o5,?o6,?o7,?o8,?o9,?o10,?o11,trivial⟩ ?fin
 case o0 =>
  refine StOp.free rfl (by kernel_rfl) (fun A va D w' hF hT hN hE hd hu hg => ?_)
  have e1 : A.eval (.tmp 4) = .pointer (some ⟨w.heap.size,0,none⟩) := hF 4 rfl
  have hBE := hE.be
  exact zcf (us := [.slice (aS 0) (mS 0) (cS 0),.slice (aS 1) (mS 1) (cS 1),.slice (aS 2) (mS 2) (cS 2),.slice (aS 3) (mS 3) (cS 3),.slice (aS 4) (mS 4) (cS 4),.slice (aS 5) (mS 5) (cS 5),.slice (aS 6) (mS 6) (cS 6),.slice (aS 7) (mS 7) (cS 7),.slice (aS 8) (mS 8) (cS 8),.slice (aS 9) (mS 9) (cS 9),.slice (aS 10) (mS 10) (cS 10),.slice (aS 11) (mS 11) (cS 11)]) stS7 rfl e1 (fun j v hj => by rw [Nat.zero_add]; exact (BoxN.below Bs hBE Bs.lt).cell hj) ⟨_,rfl,rfl,Below.refl _ _⟩
 case o1 =>
  refine StOp.free rfl (by kernel_rfl) (fun A va D w' hF hT hN hE hd hu hg => ?_)
  have e1 : A.eval (.tmp 1) = .int .i64 s := hF 1 rfl
  exact BigFrame.wp_move _ rfl ⟨_,rfl,e1,Below.refl _ _⟩
 case o2 =>
  refine StOp.free rfl (by kernel_rfl) (fun A va D w' hF hT hN hE hd hu hg => ?_)
  have e1 : A.eval (.tmp 2) = .slice la l.length lc := hF 2 rfl
  exact BigFrame.wp_move _ rfl ⟨_,rfl,e1,Below.refl _ _⟩
 case o3 =>
  refine StOp.free rfl (by kernel_rfl) (fun A va D w' hF hT hN hE hd hu hg => ?_)
  have e1 : A.eval (.tmp 10) = .int .i64 (nn : Int) := hF 10 rfl
  exact BigFrame.wp_move _ rfl ⟨_,rfl,e1,Below.refl _ _⟩
 case o4 =>
  refine StOp.free rfl (by kernel_rfl) (fun A va D w' hF hT hN hE hd hu hg => ?_)
  have e1 : A.eval (.tmp 44) = .slice la l.length lc := (hT 44 2 (by simp) rfl).trans (hg ⟨2,.data⟩ (by simp) rfl rfl)
  have e2 : A.eval (.tmp 45) = .int .i64 (nn : Int) := (hT 45 3 (by simp) rfl).trans (hg ⟨3,.data⟩ (by simp) rfl rfl)
  exact zdg wrP.toLsP rfl e1 rfl (by simp [e2]) (run_bounds_h' _ (h := nn) rfl (by omega)) ⟨_,rfl,by rw [hA1]; rfl,Below.refl _ _⟩
 case o5 =>
  refine StOp.set rfl (by kernel_rfl) (fun A va D w' hF hT hN hE hd hu hg => ?_)
  have e1 : A.eval (.tmp 42) = .agg #[.slice (aS 0) (mS 0) (cS 0),.slice (aS 1) (mS 1) (cS 1),.slice (aS 2) (mS 2) (cS 2),.slice (aS 3) (mS 3) (cS 3),.slice (aS 4) (mS 4) (cS 4),.slice (aS 5) (mS 5) (cS 5),.slice (aS 6) (mS 6) (cS 6),.slice (aS 7) (mS 7) (cS 7),.slice (aS 8) (mS 8) (cS 8),.slice (aS 9) (mS 9) (cS 9),.slice (aS 10) (mS 10) (cS 10),.slice (aS 11) (mS 11) (cS 11)] := (hT 42 0 (by simp) rfl).trans (hg ⟨0,.data⟩ (by simp) rfl rfl)
  have e2 : A.eval (.tmp 43) = .int .i64 s := (hT 43 1 (by simp) rfl).trans (hg ⟨1,.data⟩ (by simp) rfl rfl)
  have e3 : A.eval (.tmp 46) = .slice A1 nn (lc - 0) := (hT 46 4 (by simp) rfl).trans (hg ⟨4,.data⟩ (by simp) rfl rfl)
  have hE2 := hE
  simp only [told,List.map_cons,List.map_nil,hN,Bool.false_eq_true,if_false] at hE2
  have hBE := hE2.be
  refine zak rfl eP (args := #[.agg #[.slice (aS 0) (mS 0) (cS 0),.slice (aS 1) (mS 1) (cS 1),.slice (aS 2) (mS 2) (cS 2),.slice (aS 3) (mS 3) (cS 3),.slice (aS 4) (mS 4) (cS 4),.slice (aS 5) (mS 5) (cS 5),.slice (aS 6) (mS 6) (cS 6),.slice (aS 7) (mS 7) (cS 7),.slice (aS 8) (mS 8) (cS 8),.slice (aS 9) (mS 9) (cS 9),.slice (aS 10) (mS 10) (cS 10),.slice (aS 11) (mS 11) (cS 11)],.int .i64 s,.slice A1 nn (lc - 0)]) (by simp only [List.map_toArray,List.map_cons,List.map_nil,e1,e2,e3]) ((zdv w' (hdU.below hBE) (zde hs) (wf_I64 h1) (hpU.below hBE) (fun _ => smallS_ch hs) (by rw [List.length_take]; omega)).mono ?_)
  rintro e w2 ⟨v,T9,rfl,hrd,hb2,hit⟩
  have h5 := CbS.call (stStays (T := T) (s := s) (l := l.take nn) (K := 20)) hE2 (by simp) hb2 (v := v) (e := .int .i64 _) ⟨T9,hrd,rfl,hit⟩
  exact ⟨_,rfl,_,rfl,by simpa [CbL,told,don,upd] using h5,trivial⟩
 case o6 =>
  refine StOp.set rfl (by kernel_rfl) (fun A va D w' hF hT hN hE hd hu hg => ?_)
  have x1 : A.eval (.tmp 47) = va 5 := hT 47 5 (by simp) rfl
  have hE2 := hE
  have d5 : D 5 = true := hd ⟨5,.data⟩ (by simp) rfl
  simp only [told,List.map_cons,List.map_nil,hN,d5,Bool.false_eq_true,if_false,if_true] at hE2
  have h5 := CbS.move hE2
  exact BigFrame.wp_move _ rfl ⟨_,rfl,by rw [x1]; simpa [CbL,told,don,upd,d5] using h5,trivial⟩
 case o7 =>
  refine StOp.set rfl (by kernel_rfl) (fun A va D w' hF hT hN hE hd hu hg => ?_)
  have x1 : A.eval (.tmp 41) = va 6 := hT 41 6 (by simp) rfl
  have hE2 := hE
  have d6 : D 6 = true := hd ⟨6,.data⟩ (by simp) rfl
  simp only [told,List.map_cons,List.map_nil,hN,d6,Bool.false_eq_true,if_false,if_true] at hE2
  obtain ⟨v,e,em⟩ := CbS.tup hE2
  rw [em] at hE2
  have h5 := CbS.ex0 hE2
  exact wp_ex rfl (x1.trans em) rfl ⟨_,rfl,by simpa [CbL,told,don,upd,d6,em] using h5,trivial⟩
 case o8 =>
  refine StOp.set rfl (by kernel_rfl) (fun A va D w' hF hT hN hE hd hu hg => ?_)
  have x1 : A.eval (.tmp 41) = va 6 := hT 41 6 (by simp) rfl
  have hE2 := hE
  have d6 : D 6 = true := hd ⟨6,.data⟩ (by simp) rfl
  simp only [told,List.map_cons,List.map_nil,hN,d6,Bool.false_eq_true,if_false,if_true] at hE2
  obtain ⟨v,e,em⟩ := CbS.tup hE2
  rw [em] at hE2
  have h5 := CbS.ex1 hE2
  exact wp_ex rfl (x1.trans em) rfl ⟨_,rfl,by simpa [CbL,told,don,upd,d6,em] using h5,trivial⟩
 case o9 =>
  refine StOp.set rfl (by kernel_rfl) (fun A va D w' hF hT hN hE hd hu hg => ?_)
  have hE2 := hE
  simp only [told,List.map_cons,List.map_nil,hN,Bool.false_eq_true,if_false] at hE2
  refine zpx (vs := [.slice none 0 0,.slice none 0 0,.slice none 0 0,.slice none 0 0,.slice none 0 0,.slice none 0 0,.slice none 0 0,.slice none 0 0,.slice none 0 0,.slice none 0 0,.slice none 0 0,.slice none 0 0]) (by kernel_rfl) rfl (fun w2 hb2 hz => ⟨_,rfl,?_,trivial⟩)
  have h5 := CbS.alloc (stStays (T := T) (s := s) (l := l.take nn) (K := 20)) hE2 hb2 hz
  simpa [CbL,told,don,upd] using h5
 case o10 =>
  refine StOp.set rfl (by kernel_rfl) (fun A va D w' hF hT hN hE hd hu hg => ?_)
  have x1 : A.eval (.tmp 13) = va 9 := hT 13 9 (by simp) rfl
  have x2 : A.eval (.tmp 48) = va 7 := hT 48 7 (by simp) rfl
  have hE2 := hE
  have d9 : D 9 = true := hd ⟨9,.data⟩ (by simp) rfl
  have d7 : D 7 = true := hd ⟨7,.data⟩ (by simp) rfl
  simp only [told,List.map_cons,List.map_nil,hN,d9,d7,Bool.false_eq_true,if_false,if_true] at hE2
  obtain ⟨b9,eb,hb0⟩ := CbS.box hE2
  obtain ⟨e,hm⟩ := hE2.mx _ rfl
  obtain ⟨v,e2,ec,T9,hrd,_⟩ := hE2.rr _ (hE2.mv _ hm)
  obtain ⟨a8,m8,c8,ev,_⟩ := id hrd
  injection ec with ec
  injection ec with ec
  injection ec with ec _
  rw [← ec] at ev
  refine zhb (vs := [.slice none 0 0,.slice none 0 0,.slice none 0 0,.slice none 0 0,.slice none 0 0,.slice none 0 0,.slice none 0 0,.slice none 0 0,.slice none 0 0,.slice none 0 0,.slice none 0 0,.slice none 0 0]) (us := bxS a8 m8 c8) (by kernel_rfl) rfl (x1.trans eb) (x2.trans ev) rfl hb0 rfl (fun w2 hg2 ht2 => ⟨_,rfl,?_,trivial⟩)
  rw [eb] at hE2
  have h5 := CbS.sto (u := undef) (stStays (T := T) (s := s) (l := l.take nn) (K := 20)) hE2 hg2 ⟨_,_,_,ev,ht2⟩
  simpa [CbL,told,don,upd,d9,d7,eb] using h5
 case o11 =>
  refine StOp.free rfl (by kernel_rfl) (fun A va D w' hF hT hN hE hd hu hg => ?_)
  have x1 : A.eval (.tmp 49) = va 8 := hT 49 8 (by simp) rfl
  have hE2 := hE
  have d8 : D 8 = true := hd ⟨8,.data⟩ (by simp) rfl
  simp only [told,List.map_cons,List.map_nil,d8,if_true] at hE2
  have ee := CbS.errS hE2
  exact BigFrame.wp_assign _ rfl ⟨_,rfl,x1.trans ee,Below.refl _ _⟩
 case fin =>
 intro vs1 W1 hE hG
 obtain ⟨bMB,ez,em,ec,hbM,hBx,hR,hbE⟩ := CbS.done stR hE (by simp)
 obtain ⟨TB,hM,ee,hIB⟩ := hR
 obtain ⟨aB,mB,cB,ev,xB⟩ := hBx
 have g0 : vs1 0 = .agg #[.slice (aS 0) (mS 0) (cS 0),.slice (aS 1) (mS 1) (cS 1),.slice (aS 2) (mS 2) (cS 2),.slice (aS 3) (mS 3) (cS 3),.slice (aS 4) (mS 4) (cS 4),.slice (aS 5) (mS 5) (cS 5),.slice (aS 6) (mS 6) (cS 6),.slice (aS 7) (mS 7) (cS 7),.slice (aS 8) (mS 8) (cS 8),.slice (aS 9) (mS 9) (cS 9),.slice (aS 10) (mS 10) (cS 10),.slice (aS 11) (mS 11) (cS 11)] := hG 0 (by decide) rfl
 have g1 : vs1 1 = .int .i64 s := hG 1 (by decide) rfl
 have g2 : vs1 2 = .slice la l.length lc := hG 2 (by decide) rfl
 have g3 : vs1 3 = .int .i64 (nn : Int) := hG 3 (by decide) rfl
 have g4 : vs1 4 = .slice A1 nn (lc - 0) := hG 4 (by decide) rfl
 have g11 : vs1 11 = .int .i64 ((zbs (T) s (l.take nn)).2 : Nat) := hG 11 (by decide) rfl
 simp only [zae,g0,g1,g2,g3,g4,g11,ec,em,ev,ee,ez]
 rw [ev] at hM
 clear hE hG ec em ev ee ez g0 g1 g2 g3 g4 g11
 have rB : RdSt (fun _ => True) W1 (.agg #[.slice (aB 0) (mB 0) (cB 0),.slice (aB 1) (mB 1) (cB 1),.slice (aB 2) (mB 2) (cB 2),.slice (aB 3) (mB 3) (cB 3),.slice (aB 4) (mB 4) (cB 4),.slice (aB 5) (mB 5) (cB 5),.slice (aB 6) (mB 6) (cB 6),.slice (aB 7) (mB 7) (cB 7),.slice (aB 8) (mB 8) (cB 8),.slice (aB 9) (mB 9) (cB 9),.slice (aB 10) (mB 10) (cB 10),.slice (aB 11) (mB 11) (cB 11)]) TB := hM.weak fun _ _ => trivial
 clear hM hbM
 obtain ⟨wcB,hwc⟩ : ∃ V,V = W1 := ⟨_,rfl⟩
 rw [← hwc] at xB hbE rB
 rw [← hwc]
 clear hwc
 replace Bs := Bs.below hbE Bs.lt
 replace rA := rA.below hbE
 replace xA := xA.below hbE xA.lt
 replace q := q.trans (hbE.mono q.size)
 clear hbE
 obtain ⟨erB,herB⟩ : ∃ n,n = (zbs (T) s (l.take nn)).2 := ⟨_,rfl⟩
 rw [← herB]
 replace herB := Lib.hid herB
 go_simp
 go_upto_region 7 with (fail)
 have hfB := hIB.fits (zde hs) (by rw [List.length_take]; omega)
 have hcB := hIB.chs (by rw [List.length_take]; omega) (smallS_ch hs)
 obtain ⟨U2,hU⟩ : ∃ V,V = wcB := ⟨_,rfl⟩
 rw [← hU] at q Bs rA xA rB xB
 rw [← hU]
 clear hU
 have hpU2 := hp2.below q
 refine zd0 (K := fun _ _ => True) (by kernel_rfl) (by kernel_rfl) [5,6,7,8,9,10] (by kernel_rfl) [lEq (.agg #[.slice (aB 0) (mB 0) (cB 0),.slice (aB 1) (mB 1) (cB 1),.slice (aB 2) (mB 2) (cB 2),.slice (aB 3) (mB 3) (cB 3),.slice (aB 4) (mB 4) (cB 4),.slice (aB 5) (mB 5) (cB 5),.slice (aB 6) (mB 6) (cB 6),.slice (aB 7) (mB 7) (cB 7),.slice (aB 8) (mB 8) (cB 8),.slice (aB 9) (mB 9) (cB 9),.slice (aB 10) (mB 10) (cB 10),.slice (aB 11) (mB 11) (cB 11)]),lEq (.int .i64 s),lEq (.slice la l.length lc),lEq (.int .i64 (nn : Int)),lEq (.slice A2 (l.length - nn) (lc - nn)),lAny,lAny,lAny,lAny,lAny,lAny,lEq (.int .i64 ((zbs (TB) s (l.drop nn)).2 : Nat))]
  (CbL #[] 5 (StR (TB) s (l.drop nn) (20 + (l.take nn).length)) zSt StBx AnyS AnyS U2) (CbL.more (stStays (T := TB) (s := s) (l := l.drop nn) (K := 20 + (l.take nn).length))) (CbS.start _)
  ⟨?o0,?o1,?o2,?o3,?o4,?o5,?o6,?o7,?o8,?o9,?o10,?o11,trivial⟩ ?fin
 case o0 =>
  refine StOp.free rfl (by kernel_rfl) (fun A va D w' hF hT hN hE hd hu hg => ?_)
  have e1 : A.eval (.tmp 13) = .pointer (some ⟨bMB,0,none⟩) := hF 13 rfl
  have hBE := hE.be
  exact zcf (us := [.slice (aB 0) (mB 0) (cB 0),.slice (aB 1) (mB 1) (cB 1),.slice (aB 2) (mB 2) (cB 2),.slice (aB 3) (mB 3) (cB 3),.slice (aB 4) (mB 4) (cB 4),.slice (aB 5) (mB 5) (cB 5),.slice (aB 6) (mB 6) (cB 6),.slice (aB 7) (mB 7) (cB 7),.slice (aB 8) (mB 8) (cB 8),.slice (aB 9) (mB 9) (cB 9),.slice (aB 10) (mB 10) (cB 10),.slice (aB 11) (mB 11) (cB 11)]) stS7 rfl e1 (fun j v hj => by rw [Nat.zero_add]; exact (BoxN.below xB hBE xB.lt).cell hj) ⟨_,rfl,rfl,Below.refl _ _⟩
 case o1 =>
  refine StOp.free rfl (by kernel_rfl) (fun A va D w' hF hT hN hE hd hu hg => ?_)
  have e1 : A.eval (.tmp 1) = .int .i64 s := hF 1 rfl
  exact BigFrame.wp_move _ rfl ⟨_,rfl,e1,Below.refl _ _⟩
 case o2 =>
  refine StOp.free rfl (by kernel_rfl) (fun A va D w' hF hT hN hE hd hu hg => ?_)
  have e1 : A.eval (.tmp 2) = .slice la l.length lc := hF 2 rfl
  exact BigFrame.wp_move _ rfl ⟨_,rfl,e1,Below.refl _ _⟩
 case o3 =>
  refine StOp.free rfl (by kernel_rfl) (fun A va D w' hF hT hN hE hd hu hg => ?_)
  have e1 : A.eval (.tmp 10) = .int .i64 (nn : Int) := hF 10 rfl
  exact BigFrame.wp_move _ rfl ⟨_,rfl,e1,Below.refl _ _⟩
 case o4 =>
  refine StOp.free rfl (by kernel_rfl) (fun A va D w' hF hT hN hE hd hu hg => ?_)
  have e1 : A.eval (.tmp 53) = .slice la l.length lc := (hT 53 2 (by simp) rfl).trans (hg ⟨2,.data⟩ (by simp) rfl rfl)
  have e2 : A.eval (.tmp 54) = .int .i64 (nn : Int) := (hT 54 3 (by simp) rfl).trans (hg ⟨3,.data⟩ (by simp) rfl rfl)
  exact zdg wrP.toLsP rfl e1 (by simp [e2]) rfl (zal _ (l := nn) rfl hnl) ⟨_,rfl,by rw [hA2]; rfl,Below.refl _ _⟩
 case o5 =>
  refine StOp.set rfl (by kernel_rfl) (fun A va D w' hF hT hN hE hd hu hg => ?_)
  have e1 : A.eval (.tmp 51) = .agg #[.slice (aB 0) (mB 0) (cB 0),.slice (aB 1) (mB 1) (cB 1),.slice (aB 2) (mB 2) (cB 2),.slice (aB 3) (mB 3) (cB 3),.slice (aB 4) (mB 4) (cB 4),.slice (aB 5) (mB 5) (cB 5),.slice (aB 6) (mB 6) (cB 6),.slice (aB 7) (mB 7) (cB 7),.slice (aB 8) (mB 8) (cB 8),.slice (aB 9) (mB 9) (cB 9),.slice (aB 10) (mB 10) (cB 10),.slice (aB 11) (mB 11) (cB 11)] := (hT 51 0 (by simp) rfl).trans (hg ⟨0,.data⟩ (by simp) rfl rfl)
  have e2 : A.eval (.tmp 52) = .int .i64 s := (hT 52 1 (by simp) rfl).trans (hg ⟨1,.data⟩ (by simp) rfl rfl)
  have e3 : A.eval (.tmp 55) = .slice A2 (l.length - nn) (lc - nn) := (hT 55 4 (by simp) rfl).trans (hg ⟨4,.data⟩ (by simp) rfl rfl)
  have hE2 := hE
  simp only [told,List.map_cons,List.map_nil,hN,Bool.false_eq_true,if_false] at hE2
  have hBE := hE2.be
  refine zak rfl eP (args := #[.agg #[.slice (aB 0) (mB 0) (cB 0),.slice (aB 1) (mB 1) (cB 1),.slice (aB 2) (mB 2) (cB 2),.slice (aB 3) (mB 3) (cB 3),.slice (aB 4) (mB 4) (cB 4),.slice (aB 5) (mB 5) (cB 5),.slice (aB 6) (mB 6) (cB 6),.slice (aB 7) (mB 7) (cB 7),.slice (aB 8) (mB 8) (cB 8),.slice (aB 9) (mB 9) (cB 9),.slice (aB 10) (mB 10) (cB 10),.slice (aB 11) (mB 11) (cB 11)],.int .i64 s,.slice A2 (l.length - nn) (lc - nn)]) (by simp only [List.map_toArray,List.map_cons,List.map_nil,e1,e2,e3]) ((zdv w' (rB.below hBE) hfB (wf_I64 h1) (hpU2.below hBE) (fun _ => hcB) (by rw [List.length_take,List.length_drop]; omega)).mono ?_)
  rintro e w2 ⟨v,T9,rfl,hrd,hb2,hit⟩
  have h5 := CbS.call (stStays (T := TB) (s := s) (l := l.drop nn) (K := 20 + (l.take nn).length)) hE2 (by simp) hb2 (v := v) (e := .int .i64 _) ⟨T9,hrd,rfl,hit⟩
  exact ⟨_,rfl,_,rfl,by simpa [CbL,told,don,upd] using h5,trivial⟩
 case o6 =>
  refine StOp.set rfl (by kernel_rfl) (fun A va D w' hF hT hN hE hd hu hg => ?_)
  have x1 : A.eval (.tmp 56) = va 5 := hT 56 5 (by simp) rfl
  have hE2 := hE
  have d5 : D 5 = true := hd ⟨5,.data⟩ (by simp) rfl
  simp only [told,List.map_cons,List.map_nil,hN,d5,Bool.false_eq_true,if_false,if_true] at hE2
  have h5 := CbS.move hE2
  exact BigFrame.wp_move _ rfl ⟨_,rfl,by rw [x1]; simpa [CbL,told,don,upd,d5] using h5,trivial⟩
 case o7 =>
  refine StOp.set rfl (by kernel_rfl) (fun A va D w' hF hT hN hE hd hu hg => ?_)
  have x1 : A.eval (.tmp 50) = va 6 := hT 50 6 (by simp) rfl
  have hE2 := hE
  have d6 : D 6 = true := hd ⟨6,.data⟩ (by simp) rfl
  simp only [told,List.map_cons,List.map_nil,hN,d6,Bool.false_eq_true,if_false,if_true] at hE2
  obtain ⟨v,e,em⟩ := CbS.tup hE2
  rw [em] at hE2
  have h5 := CbS.ex0 hE2
  exact wp_ex rfl (x1.trans em) rfl ⟨_,rfl,by simpa [CbL,told,don,upd,d6,em] using h5,trivial⟩
 case o8 =>
  refine StOp.set rfl (by kernel_rfl) (fun A va D w' hF hT hN hE hd hu hg => ?_)
  have x1 : A.eval (.tmp 50) = va 6 := hT 50 6 (by simp) rfl
  have hE2 := hE
  have d6 : D 6 = true := hd ⟨6,.data⟩ (by simp) rfl
  simp only [told,List.map_cons,List.map_nil,hN,d6,Bool.false_eq_true,if_false,if_true] at hE2
  obtain ⟨v,e,em⟩ := CbS.tup hE2
  rw [em] at hE2
  have h5 := CbS.ex1 hE2
  exact wp_ex rfl (x1.trans em) rfl ⟨_,rfl,by simpa [CbL,told,don,upd,d6,em] using h5,trivial⟩
 case o9 =>
  refine StOp.set rfl (by kernel_rfl) (fun A va D w' hF hT hN hE hd hu hg => ?_)
  have hE2 := hE
  simp only [told,List.map_cons,List.map_nil,hN,Bool.false_eq_true,if_false] at hE2
  refine zpx (vs := [.slice none 0 0,.slice none 0 0,.slice none 0 0,.slice none 0 0,.slice none 0 0,.slice none 0 0,.slice none 0 0,.slice none 0 0,.slice none 0 0,.slice none 0 0,.slice none 0 0,.slice none 0 0]) (by kernel_rfl) rfl (fun w2 hb2 hz => ⟨_,rfl,?_,trivial⟩)
  have h5 := CbS.alloc (stStays (T := TB) (s := s) (l := l.drop nn) (K := 20 + (l.take nn).length)) hE2 hb2 hz
  simpa [CbL,told,don,upd] using h5
 case o10 =>
  refine StOp.set rfl (by kernel_rfl) (fun A va D w' hF hT hN hE hd hu hg => ?_)
  have x1 : A.eval (.tmp 15) = va 9 := hT 15 9 (by simp) rfl
  have x2 : A.eval (.tmp 57) = va 7 := hT 57 7 (by simp) rfl
  have hE2 := hE
  have d9 : D 9 = true := hd ⟨9,.data⟩ (by simp) rfl
  have d7 : D 7 = true := hd ⟨7,.data⟩ (by simp) rfl
  simp only [told,List.map_cons,List.map_nil,hN,d9,d7,Bool.false_eq_true,if_false,if_true] at hE2
  obtain ⟨b9,eb,hb0⟩ := CbS.box hE2
  obtain ⟨e,hm⟩ := hE2.mx _ rfl
  obtain ⟨v,e2,ec,T9,hrd,_⟩ := hE2.rr _ (hE2.mv _ hm)
  obtain ⟨a8,m8,c8,ev,_⟩ := id hrd
  injection ec with ec
  injection ec with ec
  injection ec with ec _
  rw [← ec] at ev
  refine zhb (vs := [.slice none 0 0,.slice none 0 0,.slice none 0 0,.slice none 0 0,.slice none 0 0,.slice none 0 0,.slice none 0 0,.slice none 0 0,.slice none 0 0,.slice none 0 0,.slice none 0 0,.slice none 0 0]) (us := bxS a8 m8 c8) (by kernel_rfl) rfl (x1.trans eb) (x2.trans ev) rfl hb0 rfl (fun w2 hg2 ht2 => ⟨_,rfl,?_,trivial⟩)
  rw [eb] at hE2
  have h5 := CbS.sto (u := undef) (stStays (T := TB) (s := s) (l := l.drop nn) (K := 20 + (l.take nn).length)) hE2 hg2 ⟨_,_,_,ev,ht2⟩
  simpa [CbL,told,don,upd,d9,d7,eb] using h5
 case o11 =>
  refine StOp.free rfl (by kernel_rfl) (fun A va D w' hF hT hN hE hd hu hg => ?_)
  have x1 : A.eval (.tmp 58) = va 8 := hT 58 8 (by simp) rfl
  have hE2 := hE
  have d8 : D 8 = true := hd ⟨8,.data⟩ (by simp) rfl
  simp only [told,List.map_cons,List.map_nil,d8,if_true] at hE2
  have ee := CbS.errS hE2
  exact BigFrame.wp_assign _ rfl ⟨_,rfl,x1.trans ee,Below.refl _ _⟩
 case fin =>
 intro vs1 W1 hE hG
 obtain ⟨bMC,ez,em,ec,hbM,hBx,hR,hbE⟩ := CbS.done stR hE (by simp)
 obtain ⟨TC,hM,ee,hIC⟩ := hR
 obtain ⟨aC,mC,cC,ev,xC⟩ := hBx
 have g0 : vs1 0 = .agg #[.slice (aB 0) (mB 0) (cB 0),.slice (aB 1) (mB 1) (cB 1),.slice (aB 2) (mB 2) (cB 2),.slice (aB 3) (mB 3) (cB 3),.slice (aB 4) (mB 4) (cB 4),.slice (aB 5) (mB 5) (cB 5),.slice (aB 6) (mB 6) (cB 6),.slice (aB 7) (mB 7) (cB 7),.slice (aB 8) (mB 8) (cB 8),.slice (aB 9) (mB 9) (cB 9),.slice (aB 10) (mB 10) (cB 10),.slice (aB 11) (mB 11) (cB 11)] := hG 0 (by decide) rfl
 have g1 : vs1 1 = .int .i64 s := hG 1 (by decide) rfl
 have g2 : vs1 2 = .slice la l.length lc := hG 2 (by decide) rfl
 have g3 : vs1 3 = .int .i64 (nn : Int) := hG 3 (by decide) rfl
 have g4 : vs1 4 = .slice A2 (l.length - nn) (lc - nn) := hG 4 (by decide) rfl
 have g11 : vs1 11 = .int .i64 ((zbs (TB) s (l.drop nn)).2 : Nat) := hG 11 (by decide) rfl
 simp only [zae,g0,g1,g2,g3,g4,g11,ec,em,ev,ee,ez]
 rw [ev] at hM
 clear hE hG ec em ev ee ez g0 g1 g2 g3 g4 g11
 have rC : RdSt (fun _ => True) W1 (.agg #[.slice (aC 0) (mC 0) (cC 0),.slice (aC 1) (mC 1) (cC 1),.slice (aC 2) (mC 2) (cC 2),.slice (aC 3) (mC 3) (cC 3),.slice (aC 4) (mC 4) (cC 4),.slice (aC 5) (mC 5) (cC 5),.slice (aC 6) (mC 6) (cC 6),.slice (aC 7) (mC 7) (cC 7),.slice (aC 8) (mC 8) (cC 8),.slice (aC 9) (mC 9) (cC 9),.slice (aC 10) (mC 10) (cC 10),.slice (aC 11) (mC 11) (cC 11)]) TC := hM.weak fun _ _ => trivial
 clear hM hbM
 obtain ⟨wcC,hwc⟩ : ∃ V,V = W1 := ⟨_,rfl⟩
 rw [← hwc] at xC hbE rC
 rw [← hwc]
 clear hwc
 replace Bs := Bs.below hbE Bs.lt
 replace rA := rA.below hbE
 replace xA := xA.below hbE xA.lt
 replace rB := rB.below hbE
 replace xB := xB.below hbE xB.lt
 replace q := q.trans (hbE.mono q.size)
 clear hbE
 obtain ⟨erC,herC⟩ : ∃ n,n = (zbs (TB) s (l.drop nn)).2 := ⟨_,rfl⟩
 rw [← herC]
 replace herC := Lib.hid herC
 go_simp
 have hfC := hIC.fits hfB (by rw [List.length_take,List.length_drop]; omega)
 have hfA := hIA.fits (zde hs) (by omega)
 obtain ⟨h8,h9⟩ := parts_of (l := l.take nn) (m := l.drop nn) (by rw [hl1]; exact hIA) hIB hIC (by rw [hl1]; omega)
 rw [hl1,← herA.out,← herB.out,← herC.out] at h8
 rw [hl1,← herA.out] at h9
 replace h9 := Lib.hid h9
 clear hIA hIB hIC herA herB herC hl1 hcB
 go_upto_region 8 with (fail)
 by_cases hA : erA = 0
 case neg =>
  have z1 : (((erA : Nat) : Int) != 0) = true := bne_iff_ne.2 (by omega)
  by_cases hB : erB = 0
  ·have hC : ¬ erC = 0 := fun h => hA (h8.2 ⟨hB,h⟩)
   have z2 : (((erB : Nat) : Int) != 0) = false := bne_eq_false_iff_eq.2 (by omega)
   have z3 : (((erC : Nat) : Int) != 0) = true := bne_iff_ne.2 (by omega)
   clear h8 hA hB hC
   go_wp2_with fail
   go_ret
   exact ⟨rfl,q⟩
  ·have z2 : (((erB : Nat) : Int) != 0) = true := bne_iff_ne.2 (by omega)
   clear h8 hA hB
   go_wp2_with fail
   go_ret
   exact ⟨rfl,q⟩
 case pos =>
 have hB := (h8.1 hA).1
 have hC := (h8.1 hA).2
 have hsame := Lib.hid (h9.out hA)
 subst hA hB hC
 clear h8 h9
 go_upto_region 10 with (fail)
 refine zbu (by kernel_rfl) (by kernel_rfl) [sgEq (.agg #[.slice (aA 0) (mA 0) (cA 0),.slice (aA 1) (mA 1) (cA 1),.slice (aA 2) (mA 2) (cA 2),.slice (aA 3) (mA 3) (cA 3),.slice (aA 4) (mA 4) (cA 4),.slice (aA 5) (mA 5) (cA 5),.slice (aA 6) (mA 6) (cA 6),.slice (aA 7) (mA 7) (cA 7),.slice (aA 8) (mA 8) (cA 8),.slice (aA 9) (mA 9) (cA 9),.slice (aA 10) (mA 10) (cA 10),.slice (aA 11) (mA 11) (cA 11)]),sgVT (tabS TA),sgEq (.agg #[.slice (aC 0) (mC 0) (cC 0),.slice (aC 1) (mC 1) (cC 1),.slice (aC 2) (mC 2) (cC 2),.slice (aC 3) (mC 3) (cC 3),.slice (aC 4) (mC 4) (cC 4),.slice (aC 5) (mC 5) (cC 5),.slice (aC 6) (mC 6) (cC 6),.slice (aC 7) (mC 7) (cC 7),.slice (aC 8) (mC 8) (cC 8),.slice (aC 9) (mC 9) (cC 9),.slice (aC 10) (mC 10) (cC 10),.slice (aC 11) (mC 11) (cC 11)]),sgVT (tabS TC),sgEq (.bool true),sgEq (.bool true)]
  ⟨?o0,?o1,?o2,?o3,?o4,?o5,trivial⟩ ?fin
 case o0 =>
  refine GdOp.plain rfl (fun A vs w' hF hT hb hd => ?_)
  have e1 : A.eval (.tmp 11) = .pointer (some ⟨wcA.heap.size,0,none⟩) := hF 11 rfl
  exact zcf (us := [.slice (aA 0) (mA 0) (cA 0),.slice (aA 1) (mA 1) (cA 1),.slice (aA 2) (mA 2) (cA 2),.slice (aA 3) (mA 3) (cA 3),.slice (aA 4) (mA 4) (cA 4),.slice (aA 5) (mA 5) (cA 5),.slice (aA 6) (mA 6) (cA 6),.slice (aA 7) (mA 7) (cA 7),.slice (aA 8) (mA 8) (cA 8),.slice (aA 9) (mA 9) (cA 9),.slice (aA 10) (mA 10) (cA 10),.slice (aA 11) (mA 11) (cA 11)]) stS7 rfl e1 (fun j v hj => by rw [Nat.zero_add]; exact (BoxN.below xA hb xA.lt).cell hj) ⟨_,rfl,rfl,Below.refl _ _⟩
 case o1 =>
  refine GdOp.plain rfl (fun A vs w' hF hT hb hd => ?_)
  have e1 : A.eval (.tmp 70) = .agg #[.slice (aA 0) (mA 0) (cA 0),.slice (aA 1) (mA 1) (cA 1),.slice (aA 2) (mA 2) (cA 2),.slice (aA 3) (mA 3) (cA 3),.slice (aA 4) (mA 4) (cA 4),.slice (aA 5) (mA 5) (cA 5),.slice (aA 6) (mA 6) (cA 6),.slice (aA 7) (mA 7) (cA 7),.slice (aA 8) (mA 8) (cA 8),.slice (aA 9) (mA 9) (cA 9),.slice (aA 10) (mA 10) (cA 10),.slice (aA 11) (mA 11) (cA 11)] := (hT 70 0 (by simp) rfl).trans (hd ⟨0,.data⟩ (by simp) rfl)
  refine zak rfl eO (args := #[.agg #[.slice (aA 0) (mA 0) (cA 0),.slice (aA 1) (mA 1) (cA 1),.slice (aA 2) (mA 2) (cA 2),.slice (aA 3) (mA 3) (cA 3),.slice (aA 4) (mA 4) (cA 4),.slice (aA 5) (mA 5) (cA 5),.slice (aA 6) (mA 6) (cA 6),.slice (aA 7) (mA 7) (cA 7),.slice (aA 8) (mA 8) (cA 8),.slice (aA 9) (mA 9) (cA 9),.slice (aA 10) (mA 10) (cA 10),.slice (aA 11) (mA 11) (cA 11)]]) (by simp only [List.map_toArray,List.map_cons,List.map_nil,e1]) ((zla w' (rA.below hb) hfA).mono ?_)
  rintro e w2 ⟨v9,rfl,ht9,hb2⟩
  exact ⟨_,rfl,_,rfl,ht9.weak fun _ _ => trivial,hb2⟩
 case o2 =>
  refine GdOp.plain rfl (fun A vs w' hF hT hb hd => ?_)
  have e1 : A.eval (.tmp 15) = .pointer (some ⟨bMC,0,none⟩) := hF 15 rfl
  exact zcf (us := [.slice (aC 0) (mC 0) (cC 0),.slice (aC 1) (mC 1) (cC 1),.slice (aC 2) (mC 2) (cC 2),.slice (aC 3) (mC 3) (cC 3),.slice (aC 4) (mC 4) (cC 4),.slice (aC 5) (mC 5) (cC 5),.slice (aC 6) (mC 6) (cC 6),.slice (aC 7) (mC 7) (cC 7),.slice (aC 8) (mC 8) (cC 8),.slice (aC 9) (mC 9) (cC 9),.slice (aC 10) (mC 10) (cC 10),.slice (aC 11) (mC 11) (cC 11)]) stS7 rfl e1 (fun j v hj => by rw [Nat.zero_add]; exact (BoxN.below xC hb xC.lt).cell hj) ⟨_,rfl,rfl,Below.refl _ _⟩
 case o3 =>
  refine GdOp.plain rfl (fun A vs w' hF hT hb hd => ?_)
  have e1 : A.eval (.tmp 72) = .agg #[.slice (aC 0) (mC 0) (cC 0),.slice (aC 1) (mC 1) (cC 1),.slice (aC 2) (mC 2) (cC 2),.slice (aC 3) (mC 3) (cC 3),.slice (aC 4) (mC 4) (cC 4),.slice (aC 5) (mC 5) (cC 5),.slice (aC 6) (mC 6) (cC 6),.slice (aC 7) (mC 7) (cC 7),.slice (aC 8) (mC 8) (cC 8),.slice (aC 9) (mC 9) (cC 9),.slice (aC 10) (mC 10) (cC 10),.slice (aC 11) (mC 11) (cC 11)] := (hT 72 2 (by simp) rfl).trans (hd ⟨2,.data⟩ (by simp) rfl)
  refine zak rfl eO (args := #[.agg #[.slice (aC 0) (mC 0) (cC 0),.slice (aC 1) (mC 1) (cC 1),.slice (aC 2) (mC 2) (cC 2),.slice (aC 3) (mC 3) (cC 3),.slice (aC 4) (mC 4) (cC 4),.slice (aC 5) (mC 5) (cC 5),.slice (aC 6) (mC 6) (cC 6),.slice (aC 7) (mC 7) (cC 7),.slice (aC 8) (mC 8) (cC 8),.slice (aC 9) (mC 9) (cC 9),.slice (aC 10) (mC 10) (cC 10),.slice (aC 11) (mC 11) (cC 11)]]) (by simp only [List.map_toArray,List.map_cons,List.map_nil,e1]) ((zla w' (rC.below hb) hfC).mono ?_)
  rintro e w2 ⟨v9,rfl,ht9,hb2⟩
  exact ⟨_,rfl,_,rfl,ht9.weak fun _ _ => trivial,hb2⟩
 case o4 =>
  refine GdOp.plain rfl (fun A vs w' hF hT hb hd => ?_)
  have hr1 : RdTb (fun _ => True) w' (vs 1) (tabS TA) := hd ⟨1,.data⟩ (by simp) rfl
  have hr2 : RdTb (fun _ => True) w' (vs 3) (tabS TC) := hd ⟨3,.data⟩ (by simp) rfl
  refine zak rfl eS (args := #[vs 1,vs 3]) (by simp only [List.map_toArray,List.map_cons,List.map_nil,hT 71 1 (by simp) rfl,hT 73 3 (by simp) rfl]) ((zk9 w' hr1 hr2).mono ?_)
  rintro e w2 ⟨rfl,hb2⟩
  exact ⟨_,rfl,_,rfl,congrArg Value.bool (decide_eq_true hsame.out),hb2⟩
 case o5 =>
  refine GdOp.plain rfl (fun A vs w' hF hT hb hd => ?_)
  have e1 : A.eval (.tmp 74) = .bool true := (hT 74 4 (by simp) rfl).trans (hd ⟨4,.data⟩ (by simp) rfl)
  exact BigFrame.wp_assign _ rfl ⟨_,rfl,e1,Below.refl _ _⟩
 case fin =>
 intro vs9 W9 hb9 hG9
 have e0 : vs9 0 = .agg #[.slice (aA 0) (mA 0) (cA 0),.slice (aA 1) (mA 1) (cA 1),.slice (aA 2) (mA 2) (cA 2),.slice (aA 3) (mA 3) (cA 3),.slice (aA 4) (mA 4) (cA 4),.slice (aA 5) (mA 5) (cA 5),.slice (aA 6) (mA 6) (cA 6),.slice (aA 7) (mA 7) (cA 7),.slice (aA 8) (mA 8) (cA 8),.slice (aA 9) (mA 9) (cA 9),.slice (aA 10) (mA 10) (cA 10),.slice (aA 11) (mA 11) (cA 11)] := hG9 0 (by decide)
 have e2 : vs9 2 = .agg #[.slice (aC 0) (mC 0) (cC 0),.slice (aC 1) (mC 1) (cC 1),.slice (aC 2) (mC 2) (cC 2),.slice (aC 3) (mC 3) (cC 3),.slice (aC 4) (mC 4) (cC 4),.slice (aC 5) (mC 5) (cC 5),.slice (aC 6) (mC 6) (cC 6),.slice (aC 7) (mC 7) (cC 7),.slice (aC 8) (mC 8) (cC 8),.slice (aC 9) (mC 9) (cC 9),.slice (aC 10) (mC 10) (cC 10),.slice (aC 11) (mC 11) (cC 11)] := hG9 2 (by decide)
 have e4 : vs9 4 = .bool true := hG9 4 (by decide)
 have e5 : vs9 5 = .bool true := hG9 5 (by decide)
 simp only [zae,e0,e2,e4,e5]
 clear hG9 e0 e2 e4 e5
 replace q := q.trans (hb9.mono q.size)
 clear hb9
 go_simp
 go_wp2_with fail
 go_ret
 exact ⟨rfl,q⟩
end Go.Proofs.YtlpfhgdnmjkngaaGreat
