/-
  TEXTS OF ONE PROOF, merged: TreT, TraS, TraT, TraU, TraV, TraW, TraY, Range, TreV, TrbA, TrbB, Sinc, TreK.
-/
import Derived.LoopIn
import Derived.LoopNIn
import Derived.OwnWalkIn
import Derived.RangeFuncBound
import Derived.RangeFuncLeaves
import Derived.RangeFuncNested
import Derived.ScopeJumps
import Derived.Shelf.RegionOpen
import Derived.Sort.CutIn
import Derived.TacticsInMore
import Derived.WalkMore
import Derived.Test.YtlpfhgdnmjkngaaGreatKv11
namespace Go.Proofs.YtlpfhgdnmjkngaaGreat
open Go.RowKit Go.Shelf
set_option maxRecDepth 100000
set_option maxHeartbeats 32000000
def Ris (l:List (List UInt8)):Prop:=l.Pairwise fun a b=>ltB a b=true
instance (l:List (List UInt8)):Decidable (Ris l):=by unfold Ris;infer_instance
theorem zms {A B:List (List UInt8)} {k:List UInt8}:Ris (A++k::B)↔Ris (A++[k])∧Ris (k::B):=by
 unfold Ris
 constructor
 ·intro h
  refine⟨?_,(List.pairwise_append.1 h).2.1⟩
  have e:A++k::B=(A++[k])++B:=by simp
  rw [e] at h
  exact (List.pairwise_append.1 h).1
 ·rintro⟨h1,h2⟩
  rw [List.pairwise_append] at h1 ⊢
  refine⟨h1.1,h2,fun a ha b hb=>?_⟩
  have hak:=h1.2.2 a ha k (by simp)
  rcases List.mem_cons.1 hb with rfl | hb
  ·exact hak
  ·exact zb4 hak ((List.pairwise_cons.1 h2).1 b hb)
theorem zmr {a b:List (List UInt8)} (h:Ris b) (hs:a.Sublist b):Ris a:=List.Pairwise.sublist hs h
def kyP (l:List Pr):List (List UInt8):=l.map (·.key)
def loK (ks:List (List UInt8)) (low:List (List UInt8)) (i:Nat):List (List UInt8):=if i=0 then low else (ks[i - 1]?).toList
def hiK (ks:List (List UInt8)) (high:List (List UInt8)) (i:Nat):List (List UInt8):=if i<ks.length then (ks[i]?).toList else high
theorem zk6:∀ (K:List Pr) (x:List Pr) (B:List (List Pr)) (low high:List (List UInt8)),B.length=K.length →
  (Ris (low++kyP (x++suf K B)++high)↔Ris (low++kyP K++high)∧∀ i (h:i<(x::B).length),Ris (loK (kyP K) low i++kyP (x::B)[i]++hiK (kyP K) high i))
 | [],x,[],low,high,_=>by
  constructor
  ·intro h
   have h':Ris (low++kyP x++high):=by simpa [suf] using h
   refine⟨zmr h' ?_,fun i hi=>?_⟩
   ·simp only [kyP,List.map_nil,List.append_nil]
    exact List.Sublist.append (List.sublist_append_left _ _) (List.Sublist.refl _)
   ·obtain rfl:i=0:=by simp at hi;exact hi
    simpa [loK,hiK,kyP] using h'
  ·rintro⟨_,h⟩
   have:=h 0 (by simp)
   simpa [loK,hiK,kyP,suf] using this
 | p::K,x,y::B,low,high,hl=>by
  have ih:=zk6 K y B [p.key] high (by simpa using hl)
  have e0:suf (p::K) (y::B)=p::(y++suf K B):=by rw [suf,zca]
  have e1:low++kyP (x++suf (p::K) (y::B))++high=(low++kyP x)++p.key::(kyP (y++suf K B)++high):=by rw [e0];simp [kyP]
  have e2:low++kyP (p::K)++high=low++p.key::(kyP K++high):=by simp [kyP]
  have e3:∀ l:List (List UInt8),p.key::(l++high)=[p.key]++l++high:=fun l=>by simp
  rw [e1,e2,zms (A:=low++kyP x) (k:=p.key) (B:=kyP (y++suf K B)++high),zms (A:=low) (k:=p.key) (B:=kyP K++high),e3 (kyP (y++suf K B)),e3 (kyP K),ih]
  have e4:∀ j,loK (kyP (p::K)) low (j+1)=loK (kyP K) [p.key] j:=fun j=>by
   unfold loK
   cases j with
   | zero=>simp [kyP]
   | succ j=>simp [kyP]
  have e5:∀ j,hiK (kyP (p::K)) high (j+1)=hiK (kyP K) high j:=fun j=>by
   unfold hiK
   simp [kyP]
  constructor
  ·rintro⟨h1,h2,h3⟩
   refine⟨⟨zmr h1 ?_,h2⟩,fun i hi=>?_⟩
   ·exact List.Sublist.append (List.sublist_append_left _ _) (List.Sublist.refl _)
   ·cases i with
    | zero=>simpa [loK,hiK,kyP] using h1
    | succ j =>
     have:=h3 j (by simpa using hi)
     rw [e4,e5]
     simpa using this
  ·rintro⟨⟨_,h2⟩,h3⟩
   refine⟨?_,h2,fun j hj=>?_⟩
   ·have:=h3 0 (by simp)
    simpa [loK,hiK,kyP] using this
   ·have:=h3 (j+1) (by simpa using hj)
    rw [e4,e5] at this
    simpa using this
instance (p:Pr):Decidable (zik p):=by unfold zik;infer_instance
def depF (n:Nd) (low high:List (List UInt8)):Nat:=if 0≤zax n false∧(∀ p∈zaa n,zik p)∧Ris (low++kyP (zaa n)++high) then (zax n false).toNat else 0
def aloF(n:Nd):Prop:=1≤n.keys.length∧n.keys.length≤3∧n.chains.length=n.keys.length∧(∀ p∈kpN n,zik p)∧(n.kids=[]∨n.kids.length=n.keys.length+1)
instance (n:Nd):Decidable (aloF n):=by unfold aloF;infer_instance
theorem zm3 {n:Nd} (hc:n.chains.length=n.keys.length):kyP (kpN n)=n.keys:=by
 unfold kyP kpN
 apply List.ext_getElem
 ·rw [List.length_map,List.length_zipWith];omega
 ·intro i h1 h2
  simp
theorem zkb(n:Nd)(h:1≤n.keys.length):zax n true=zax n false:=by
 rw [zb5,zb5]
 have:¬ n.keys.length<1:=by omega
 simp [this]
theorem zlx {n:Nd} (hc:n.chains.length=n.keys.length) (h1:1≤n.keys.length) (h3:n.keys.length≤3) (h0:n.kids=[]):zax n false=1:=by
 rw [zb5,if_neg (by omega),if_pos (by rw [h0];rfl)]
theorem zrj {n:Nd} {b:Int} (hc:n.chains.length=n.keys.length) (h1:1≤n.keys.length) (h3:n.keys.length≤3) (hk:n.kids.length=n.keys.length+1) (hb:0≤b) (ha:∀ m∈n.kids,zax m false=b):zax n false=b+1:=by
 rw [zb5,if_neg (by omega),if_neg (by omega),if_neg (by omega)]
 cases hm:n.kids with
 | nil=>rw [hm] at hk;simp at hk
 | cons m r =>
  rw [List.map_cons]
  have e:=ha m (by rw [hm];simp)
  rw [e]
  exact zkf (fun x hx=>by
   obtain⟨m',hm',rfl⟩:=List.mem_map.1 hx
   exact ha m' (by rw [hm];simp [hm'])) hb
theorem zez {n:Nd} {Q:Pr→Prop} (hc:n.chains.length=n.keys.length) (hk:n.kids=[]∨n.kids.length=n.keys.length+1):(∀ p∈zaa n,Q p)↔(∀ p∈kpN n,Q p)∧∀ m∈n.kids,∀ p∈zaa m,Q p:=by
 have hsuf:∀ (K:List Pr) (B:List (List Pr)),B.length=K.length→((∀ p∈suf K B,Q p)↔(∀ p∈K,Q p)∧∀ x∈B,∀ p∈x,Q p):=by
  intro K
  induction K with
  | nil=>intro B hB;have:B=[]:=List.eq_nil_of_length_eq_zero hB;subst this;simp [suf]
  | cons k K ih =>
   intro B hB
   cases B with
   | nil=>simp at hB
   | cons y B =>
    have e:suf (k::K) (y::B)=k::(y++suf K B):=by rw [suf,zca]
    rw [e,List.forall_mem_cons,List.forall_mem_append,ih B (by simpa using hB),List.forall_mem_cons,List.forall_mem_cons]
    constructor
    ·rintro⟨h1,h2,h3,h4⟩
     exact⟨⟨h1,h3⟩,h2,h4⟩
    ·rintro⟨⟨h1,h3⟩,h2,h4⟩
     exact⟨h1,h2,h3,h4⟩
 rw [zaq hc hk]
 rcases hk with hk | hk
 ·have:psN n=[]:=by unfold psN;rw [hk];rfl
  rw [this,hk]
  simp [zbn]
 ·have hl:(psN n).length=(kpN n).length+1:=by unfold psN;rw [List.length_map,zbd hc,hk]
  have hmem:(∀ m∈n.kids,∀ p∈zaa m,Q p)↔∀ x∈psN n,∀ p∈x,Q p:=by unfold psN;simp
  rw [hmem]
  cases hps:psN n with
  | nil=>rw [hps] at hl;simp at hl
  | cons x B =>
   rw [hps] at hl
   rw [zca,List.forall_mem_append,hsuf (kpN n) B (by simpa using hl),List.forall_mem_cons]
   constructor
   ·rintro⟨h1,h2,h3⟩
    exact⟨h2,h1,h3⟩
   ·rintro⟨h2,h1,h3⟩
    exact⟨h1,h2,h3⟩
theorem zji {n:Nd} (hc:n.chains.length=n.keys.length) (hk:n.kids.length=n.keys.length+1) (low high:List (List UInt8)) :
  Ris (low++kyP (zaa n)++high)↔Ris (low++n.keys++high)∧∀ i (h:i<n.kids.length),Ris (loK n.keys low i++kyP (zaa n.kids[i])++hiK n.keys high i):=by
 rw [zaq hc (.inr hk)]
 have hl:(psN n).length=(kpN n).length+1:=by unfold psN;rw [List.length_map,zbd hc,hk]
 obtain⟨x,B,hps⟩:∃ x B,psN n=x::B:=by
  cases hps:psN n with
  | nil=>rw [hps] at hl;simp at hl
  | cons x B=>exact⟨x,B,rfl⟩
 have hlB:B.length=(kpN n).length:=by rw [hps] at hl;simpa using hl
 rw [hps,zca,zk6 (kpN n) x B low high hlB,zm3 hc]
 have hlen:(x::B).length=n.kids.length:=by rw [← hps];unfold psN;rw [List.length_map]
 have hget:∀ i (h1:i<(x::B).length) (h2:i<n.kids.length),(x::B)[i]=zaa n.kids[i]:=fun i h1 h2=>by
  have:(psN n)[i]?=some (zaa n.kids[i]):=by unfold psN;rw [List.getElem?_map,List.getElem?_eq_getElem h2];rfl
  rw [hps,List.getElem?_eq_getElem h1] at this
  exact Option.some.inj this
 constructor
 ·rintro⟨h1,h2⟩
  exact⟨h1,fun i hi=>by have:=h2 i (by omega);rwa [hget i (by omega) hi] at this⟩
 ·rintro⟨h1,h2⟩
  exact⟨h1,fun i hi=>by have:=h2 i (by omega);rwa [hget i hi (by omega)]⟩
theorem zpj {n : Nd} {low high : List (List UInt8)} (h : ¬ aloF n) : depF n low high = 0 := by
 unfold depF
 rw [if_neg]
 rintro ⟨h1,h2,_⟩
 obtain ⟨h4,h5,h6,h7⟩ := zcb rfl h1
 refine h ⟨h6 rfl,h5,h4,?_,h7.imp (fun h => h.1) fun h => h.1⟩
 exact ((zez h4 (h7.imp (fun h => h.1) fun h => h.1)).1 h2).1
theorem zrt {n:Nd} {low high:List (List UInt8)} (ha:aloF n) (h:¬ Ris (low++n.keys++high)):depF n low high=0:=by
 obtain⟨_,_,hc,_,hk⟩:=ha
 unfold depF
 rw [if_neg]
 rintro⟨_,_,h3⟩
 rcases hk with hk | hk
 ·rw [zaq hc (.inl hk)] at h3
  have:psN n=[]:=by unfold psN;rw [hk];rfl
  rw [this] at h3
  exact h (by simpa [zbn,zm3 hc] using h3)
 ·exact h ((zji hc hk low high).1 h3).1
theorem zru {n : Nd} {low high : List (List UInt8)} (ha : aloF n) (h : Ris (low ++ n.keys ++ high)) (h0 : n.kids = []) : depF n low high = 1 := by
 obtain ⟨h1,h3,hc,hg,_⟩ := ha
 unfold depF
 have hp : psN n = [] := by unfold psN; rw [h0]; rfl
 rw [zlx hc h1 h3 h0,if_pos]
 ·rfl
 ·refine ⟨by omega,(zez hc (.inl h0)).2 ⟨hg,fun m hm => by rw [h0] at hm; cases hm⟩,?_⟩
  rw [zaq hc (.inl h0),hp]
  simpa [zbn,zm3 hc] using h
theorem zoj {n:Nd} {low high:List (List UInt8)} (h:depF n low high≠0):zax n false=(depF n low high:Int)∧(∀ p∈zaa n,zik p)∧Ris (low++kyP (zaa n)++high):=by
 unfold depF at h ⊢
 split at h
 ·next hc=>rw [if_pos hc];exact⟨by omega,hc.2⟩
 ·exact absurd rfl h
theorem zkc {n:Nd} {low high:List (List UInt8)} (ha:aloF n) (hd:depF n low high≠0) (i:Nat) (hi:i<n.kids.length):(depF n.kids[i] (loK n.keys low i) (hiK n.keys high i):Int)=(depF n low high:Int) - 1∧depF n.kids[i] (loK n.keys low i) (hiK n.keys high i)≠0:=by
 obtain⟨_,_,hc,hg,hk⟩:=ha
 obtain⟨h1,h2,h3⟩:=zoj hd
 have hk':n.kids.length=n.keys.length+1:=by
  rcases hk with hk | hk
  ·rw [hk] at hi;cases hi
  ·exact hk
 obtain⟨_,_,_,h7⟩:=zcb h1 (by omega)
 rcases h7 with⟨h7,_⟩|⟨_,_,h8,h9⟩
 ·rw [h7] at hi;cases hi
 ·have e:=h9 _ (List.getElem_mem hi)
  have hcond:0≤zax n.kids[i] false∧(∀ p∈zaa n.kids[i],zik p)∧Ris (loK n.keys low i++kyP (zaa n.kids[i])++hiK n.keys high i) :=
   ⟨by rw [e];omega,((zez hc (.inr hk')).1 h2).2 _ (List.getElem_mem hi),((zji hc hk' low high).1 h3).2 i hi⟩
  have:depF n.kids[i] (loK n.keys low i) (hiK n.keys high i)=(zax n.kids[i] false).toNat:=if_pos hcond
  rw [this,e]
  omega
theorem depF_all {n : Nd} {low high : List (List UInt8)} {b : Nat} (ha : aloF n) (h : Ris (low ++ n.keys ++ high)) (hk : 0 < n.kids.length) (hb : 0 < b) (hd : ∀ i (hi : i < n.kids.length),depF n.kids[i] (loK n.keys low i) (hiK n.keys high i) = b) : depF n low high = b + 1 := by
 obtain ⟨h1,h3,hc,hg,hk2⟩ := ha
 have hk' : n.kids.length = n.keys.length + 1 := by
  rcases hk2 with hk2 | hk2
  ·rw [hk2] at hk; cases hk
  ·exact hk2
 have hp := fun i (hi : i < n.kids.length) => zoj (n := n.kids[i]) (low := loK n.keys low i) (high := hiK n.keys high i) (by rw [hd i hi]; omega)
 have hf : zax n false = (b : Int) + 1 := zrj hc h1 h3 hk' (by omega) fun m hm => by
  obtain ⟨i,hi,rfl⟩ := List.mem_iff_getElem.1 hm
  rw [(hp i hi).1,hd i hi]
 unfold depF
 rw [hf,if_pos]
 ·omega
 ·refine ⟨by omega,(zez hc (.inr hk')).2 ⟨hg,fun m hm => ?_⟩,(zji hc hk' low high).2 ⟨h,fun i hi => (hp i hi).2.2⟩⟩
  obtain ⟨i,hi,rfl⟩ := List.mem_iff_getElem.1 hm
  exact (hp i hi).2.1
theorem zrs (n : Nd) : depN n = if n.keys.length + n.chains.length + n.kids.length = 0 then 1 else (depF n [] [] : Int) := by
 unfold depN
 have hsr : ∀ l : List Pr,Srt l ↔ Ris ([] ++ kyP l ++ []) := fun l => by
  unfold Srt Ris kyP
  rw [List.nil_append,List.append_nil,List.pairwise_map]
 by_cases h0 : n.keys.length + n.chains.length + n.kids.length = 0
 ·rw [if_pos h0]
  have e1 : n.keys.length = 0 := by omega
  have e2 : n.kids = [] := List.eq_nil_of_length_eq_zero (by omega)
  have hf : zax n true = 1 := by
   rw [zb5,if_neg (by simp; omega),if_pos (by rw [e2]; rfl)]
  have hp : zaa n = [] := List.eq_nil_of_length_eq_zero (by rw [zd7 n e2]; exact e1)
  have hok : okN n := ⟨by rw [hf]; omega,by rw [hp]; intro i h; simp at h⟩
  rw [if_pos hok,hf]
 ·rw [if_neg h0]
  by_cases h1 : 1 ≤ n.keys.length
  ·have hiff : okN n ↔ (0 ≤ zax n false ∧ (∀ p ∈ zaa n,zik p) ∧ Ris ([] ++ kyP (zaa n) ++ [])) := by
    unfold okN
    rw [zkb n h1,zco,hsr]
   unfold depF
   by_cases h2 : okN n
   ·rw [if_pos h2,if_pos (hiff.1 h2),zkb n h1]
    have := (hiff.1 h2).1
    omega
   ·rw [if_neg h2,if_neg fun h => h2 (hiff.2 h)]
    rfl
  ·have hf : zax n false = -1 := by
    rw [zb5,if_pos (.inr (.inr ⟨rfl,by omega⟩))]
   have hft : ¬ 0 ≤ zax n true := fun h => by
    obtain ⟨h4,_,_,h7⟩ := zcb rfl h
    rcases h7 with ⟨h7,_⟩ | ⟨_,h8,_⟩
    ·have e : n.kids.length = 0 := by rw [h7]; rfl
     exact h0 (by omega)
    ·omega
   rw [if_neg (fun h : okN n => hft h.1)]
   unfold depF
   rw [if_neg (fun h => by rw [hf] at h; omega)]
   rfl
def gdP (n:Nd) (r:Nat):Prop:=(n.keys.getD r []).length≤16∧n.chains.getD r []≠[]∧okV (n.chains.getD r [])
instance (n:Nd) (r:Nat):Decidable (gdP n r):=by unfold gdP;infer_instance
theorem kp_good {n:Nd} (hc:n.chains.length=n.keys.length):(∀ p∈kpN n,zik p)↔∀ r,r<n.keys.length→gdP n r:=by
 have e1:∀ r (hr:r<n.keys.length),n.keys.getD r []=n.keys[r]∧n.chains.getD r []=n.chains[r]'(by omega):=fun r hr=>by
  rw [List.getD_eq_getElem?_getD,List.getD_eq_getElem?_getD,List.getElem?_eq_getElem hr,List.getElem?_eq_getElem (by omega:r<n.chains.length)]
  exact⟨rfl,rfl⟩
 constructor
 ·intro h r hr
  have hm:(⟨n.keys[r],n.chains[r]'(by omega)⟩:Pr)∈kpN n:=List.mem_of_getElem? (zdp hc hr)
  obtain⟨h1,h2,h3⟩:=h _ hm
  unfold gdP
  rw [(e1 r hr).1,(e1 r hr).2]
  exact⟨h3,h2,h1⟩
 ·intro h p hp
  obtain⟨r,hr,rfl⟩:=List.mem_iff_getElem.1 hp
  have hr':r<n.keys.length:=by rw [zbd hc] at hr;exact hr
  have e:=zdp hc hr'
  rw [List.getElem?_eq_getElem hr] at e
  rw [Option.some.inj e]
  have hg:=h r hr'
  unfold gdP at hg
  rw [(e1 r hr').1,(e1 r hr').2] at hg
  exact⟨hg.2.2,hg.2.1,hg.1⟩
theorem zo1 (w : World) {S : Nat → Prop} {v : Value} {n : Nd} (hr : RdN S w v n) : Calls Tryz.prog 88 #[v] w fun e w' => e = .returned (.bool (decide (aloF n))) ∧ Below w.heap.size w w' := by
 obtain ⟨a1,c1,a2,c2,a3,c3,rfl,rk,rc,rn⟩ := hr
 have q : Below w.heap.size w (w.alloc (.cells #[.slice a1 n.keys.length c1,.slice a2 n.chains.length c2,.slice a3 n.kids.length c3] 26)) := (Below.refl _ _).alloc (Nat.le_refl _) _
 have bn := TriV.new w 26 (.slice a1 n.keys.length c1) (.slice a2 n.chains.length c2) (.slice a3 n.kids.length c3)
 obtain ⟨W,hW⟩ : ∃ W,W = w.alloc (.cells #[.slice a1 n.keys.length c1,.slice a2 n.chains.length c2,.slice a3 n.kids.length c3] 26) := ⟨_,rfl⟩
 rw [← hW] at q bn
 obtain ⟨out,hout⟩ : ∃ out,out = decide (aloF n) := ⟨_,rfl⟩
 rw [← hout]
 replace hout := Lib.hid hout
 have tn0 := bn.cell0
 have tn1 := bn.cell1
 have tn2 := bn.cell2
 obtain ⟨hk1,hk2,hk3⟩ : n.keys.length ≤ 9223372036854775807 ∧ n.chains.length ≤ 9223372036854775807 ∧ n.kids.length ≤ 9223372036854775807 := RdN.lens (S := S) (w := w) (v := .agg #[.slice a1 n.keys.length c1,.slice a2 n.chains.length c2,.slice a3 n.kids.length c3]) ⟨a1,c1,a2,c2,a3,c3,rfl,rk,rc,rn⟩
 by_cases hlen : 1 ≤ n.keys.length ∧ n.keys.length ≤ 3 ∧ n.chains.length = n.keys.length
 ·obtain ⟨h1,h3,hc⟩ := hlen
  have d1 : decide ((n.keys.length : Int) < 1) = false := decide_eq_false (by omega)
  have d2 : decide ((3 : Int) < (n.keys.length : Int)) = false := decide_eq_false (by omega)
  have d3 : ((n.chains.length : Int) != (n.keys.length : Int)) = false := zpf hc
  have hgood := kp_good hc
  have hc1 := Nat.le_of_eq hc
  have hc2 := Nat.le_of_eq hc.symm
  have HC := Lib.hid hc
  clear hc
  replace hgood := Lib.hid hgood
  go_enter Tryz.func88,Tryz.ntmps88
  go_wp2_with fail
  rw [← hW]
  clear hW
  go_loopw [3,4,27] (fun _ _ iv wr => ∃ j : Nat,j ≤ n.keys.length ∧ iv = .int .i64 j ∧ (∀ r,r < j → gdP n r) ∧ Below W.heap.size W wr) (fun _ _ iv _ => n.keys.length - (intOf iv).toNat)
  case atStart => exact ⟨0,Nat.zero_le _,rfl,fun _ h => absurd h (Nat.not_lt_zero _),Below.refl _ _⟩
  case round =>
   obtain ⟨j,hj,rfl,hg,hb⟩ := hrel
   have hbw := q.trans (hb.mono q.size)
   clear tn0 tn1 tn2
   rcases Nat.lt_or_ge j n.keys.length with hlt | hge
   ·have hjc : j < n.chains.length := by omega
    obtain ⟨b1,o1,A,C,rfl,hk0,hkr⟩ := (rk.below hbw).byt j hlt
    obtain ⟨b2,o2,A2,C2,rfl,hc0,hcr⟩ := (rc.below hbw).lst j hjc
    have hfit := zof wr (a := A) (n := n.keys[j].length) (c := C) hcr
    have hgd : decide (n.keys[j].length ≤ 16 ∧ n.chains[j] ≠ [] ∧ okV n.chains[j]) = decide (gdP n j) := decide_eq_decide.2 (by
     unfold gdP
     rw [List.getD_eq_getElem?_getD,List.getD_eq_getElem?_getD,List.getElem?_eq_getElem hlt,List.getElem?_eq_getElem hjc]
     exact Iff.rfl)
    rw [hgd] at hfit
    clear hgd
    have bn2 := bn.below hb bn.lt
    have tn1 := bn2.cell1
    by_cases hg2 : gdP n j
    ·rw [decide_eq_true hg2] at hfit
     go_wp2_with fail
     refine hfit.mono ?_
     rintro e w2 ⟨rfl,hb2⟩
     go_wp2_with fail
     go_roundw
     case rel => exact ⟨j + 1,by omega,by go_num,fun r hr => (Nat.lt_or_ge r j).elim (fun h => hg r h) (fun h => (show r = j by omega) ▸ hg2),hb.trans (hb2.mono hb.size)⟩
     case measure => simp [intOf]; omega
    ·rw [decide_eq_false hg2] at hfit
     have ho : out = false := by
      rw [hout.out]
      exact decide_eq_false fun ha => hg2 (hgood.out.1 ha.2.2.2.1 j hlt)
     replace ho := Lib.hid ho
     go_wp2_with fail
     refine hfit.mono ?_
     rintro e w2 ⟨rfl,hb2⟩
     go_wp2_with fail
     go_ret
     exact ⟨by rw [ho.out] <;> rfl,hbw.trans (hb2.mono hbw.size)⟩
   ·obtain rfl : j = n.keys.length := by omega
    have bn2 := bn.below hb bn.lt
    have hle := ze8 wr (x := .slice a1 n.keys.length c1) (y := .slice a2 n.chains.length c2) (a := a3) (n := n.kids.length) (c := c3)
    have tn0 := bn2.cell0
    have tn1 := bn2.cell1
    have tn2 := bn2.cell2
    have hall := hgood.out.2 hg
    replace hg := Lib.hid hg
    rcases Nat.eq_zero_or_pos n.kids.length with hk0 | hk0
    ·have hdk : decide (n.kids.length = 0) = true := decide_eq_true hk0
     rw [hdk] at hle
     have ho : out = true := by
      rw [hout.out]
      exact decide_eq_true ⟨h1,h3,HC.out,hall,.inl (List.length_eq_zero_iff.1 hk0)⟩
     replace ho := Lib.hid ho
     replace hdk := Lib.hid hdk
     replace hk0 := Lib.hid hk0
     go_wp2_with fail
     refine hle.mono ?_
     rintro e w2 ⟨rfl,hb2⟩
     go_wp2_with fail
     go_ret
     exact ⟨by rw [ho.out] <;> rfl,hbw.trans (hb2.mono hbw.size)⟩
    ·have hdk : decide (n.kids.length = 0) = false := decide_eq_false (by omega)
     rw [hdk] at hle
     obtain ⟨yes,hyes⟩ : ∃ yes,yes = decide (n.kids.length = n.keys.length + 1) := ⟨_,rfl⟩
     have d4 : ((n.kids.length : Int) == (n.keys.length : Int) + 1) = yes := by
      rw [hyes]
      by_cases h : n.kids.length = n.keys.length + 1
      ·rw [decide_eq_true h,beq_iff_eq]; omega
      ·rw [decide_eq_false h,beq_eq_false_iff_ne]; omega
     have ho : out = yes := by
      rw [hout.out,hyes]
      refine decide_eq_decide.2 ⟨fun ha => ?_,fun h => ⟨h1,h3,HC.out,hall,.inr h⟩⟩
      rcases ha.2.2.2.2 with h | h
      ·rw [h] at hk0; cases hk0
      ·exact h
     replace ho := Lib.hid ho
     replace hdk := Lib.hid hdk
     replace hyes := Lib.hid hyes
     go_wp2_with fail
     refine hle.mono ?_
     rintro e w2 ⟨rfl,hb2⟩
     have bn3 := bn2.below hb2 bn2.lt
     clear tn0 tn1 tn2
     have tn0 := bn3.cell0
     have tn2 := bn3.cell2
     go_wp2_with fail
     go_ret
     exact ⟨by rw [ho.out] <;> rfl,hbw.trans (hb2.mono hbw.size)⟩
 ·have ho : out = false := by
   rw [hout.out]
   exact decide_eq_false fun ha => hlen ⟨ha.1,ha.2.1,ha.2.2.1⟩
  replace ho := Lib.hid ho
  have fin : ∀ W',W' = W → (Ending.returned (.bool false) = Ending.returned (.bool out) ∧ Below w.heap.size w W') := fun W' e => ⟨by rw [ho.out],by rw [e]; exact q⟩
  rcases Nat.lt_or_ge n.keys.length 1 with h1 | h1
  ·have d1 : decide ((n.keys.length : Int) < 1) = true := decide_eq_true (by omega)
   go_enter Tryz.func88,Tryz.ntmps88
   go_wp2_with fail
   rw [← hW]
   go_ret
   exact fin _ rfl
  ·have d1 : decide ((n.keys.length : Int) < 1) = false := decide_eq_false (by omega)
   rcases Nat.lt_or_ge 3 n.keys.length with h3 | h3
   ·have d2 : decide ((3 : Int) < (n.keys.length : Int)) = true := decide_eq_true (by omega)
    go_enter Tryz.func88,Tryz.ntmps88
    go_wp2_with fail
    rw [← hW]
    go_ret
    exact fin _ rfl
   ·have d2 : decide ((3 : Int) < (n.keys.length : Int)) = false := decide_eq_false (by omega)
    have hne : ¬ n.chains.length = n.keys.length := fun h => hlen ⟨h1,h3,h⟩
    have d3 : ((n.chains.length : Int) != (n.keys.length : Int)) = true := lenNe hne
    go_enter Tryz.func88,Tryz.ntmps88
    go_wp2_with fail
    rw [← hW]
    go_ret
    exact fin _ rfl
def LastR (S : Nat → Prop) (w : World) (v : Value) (P : List (List UInt8)) : Prop :=
 (P = [] ∧ v = .slice none 0 0) ∨ ∃ Q x b off C A L,P = Q ++ [x] ∧ v = .slice (some ⟨b,off,none⟩) 1 C ∧ w.cell? ⟨b,off,none⟩ = some (.slice A x.length L) ∧ RdS S w (.slice A x.length L) x
theorem znw {Q:List (List UInt8)} {x k:List UInt8}:Ris (Q++[x]++[k])↔Ris (Q++[x])∧ltB x k=true:=by
 rw [List.append_assoc,List.singleton_append,zms]
 unfold Ris
 simp
theorem ris_pre {A B:List (List UInt8)} (h:Ris (A++B)):Ris A:=zmr h (List.sublist_append_left _ _)
theorem zp6 (w : World) {S : Nat → Prop} {a : Option Addr} {m c : Nat} {ls : List (List (List UInt8))} (hl : RdL (Elt.list Elt.bytes) S w (.slice a m c) ls) (hn : ls.length ≤ 1000000) (hn2 : ∀ l ∈ ls,l.length ≤ 1000000) :
  Calls Tryz.prog 89 #[.slice a m c] w fun e w' => e = .returned (.bool (decide (Ris ls.flatten))) ∧ Below w.heap.size w w' := by
 obtain ⟨rfl,hmc,hcm⟩ := hl.len
 obtain ⟨out,hout⟩ : ∃ out,out = decide (Ris ls.flatten) := ⟨_,rfl⟩
 rw [← hout]
 replace hout := Lib.hid hout
 go_enter Tryz.func89,Tryz.ntmps89
 go_wp2_with fail
 go_loopw [3,5,6,7,10] (fun lv _ _ _ iv wr => ∃ r : Nat,r ≤ ls.length ∧ iv = .int .i64 r ∧ LastR S w lv (ls.take r).flatten ∧ Ris (ls.take r).flatten ∧ Below w.heap.size w wr) (fun _ _ _ _ iv _ => ls.length - (intOf iv).toNat)
 case atStart => exact ⟨0,Nat.zero_le _,rfl,.inl ⟨rfl,rfl⟩,List.Pairwise.nil,Below.refl _ _⟩
 case round =>
  obtain ⟨r,hr,rfl,hlast,hris,hb⟩ := hrel
  rcases Nat.lt_or_ge r ls.length with hlt | hge
  ·obtain ⟨b1,o1,A1,C1,rfl,hc0,hlr⟩ := hl.lst r hlt
   replace hc0 := (zac (hb.block b1 (zaj hc0)) _).trans hc0
   have hl0 : RdL Elt.bytes S w (.slice A1 ls[r].length C1) ls[r] := hlr
   have hcap := hl0.len.2
   have hln := hn2 _ (List.getElem_mem hlt)
   obtain ⟨l,hll⟩ : ∃ l,l = ls[r] := ⟨_,rfl⟩
   rw [← hll] at hc0 hl0 hcap hln
   replace hll := Lib.hid hll
   clear hlr
   obtain ⟨P,hP⟩ : ∃ P,P = (ls.take r).flatten := ⟨_,rfl⟩
   rw [← hP] at hlast hris
   replace hP := Lib.hid hP
   go_upto_region 5 with (fail)
   go_wp2_with fail
   go_loopw [3,6,7,16] (fun lv _ _ iv w2 => ∃ i : Nat,i ≤ l.length ∧ iv = .int .i64 i ∧ LastR S w lv (P ++ l.take i) ∧ Ris (P ++ l.take i) ∧ Below wr.heap.size wr w2) (fun _ _ _ iv _ => l.length - (intOf iv).toNat)
   case atStart => exact ⟨0,Nat.zero_le _,rfl,by simpa using hlast,by simpa using hris,Below.refl _ _⟩
   case round =>
    clear hlast hris
    obtain ⟨i,hi,rfl,hlast,hris,hb2⟩ := hrel
    have hbw := hb.trans (hb2.mono hb.size)
    rcases Nat.lt_or_ge i l.length with hil | hil
    ·obtain ⟨b2,o2,A2,C2,rfl,hk0,hkr⟩ := hl0.byt i hil
     obtain ⟨y,hy⟩ : ∃ y,y = l[i] := ⟨_,rfl⟩
     rw [← hy] at hk0 hkr
     have htk : P ++ l.take (i + 1) = P ++ l.take i ++ [y] := by rw [List.take_add_one,List.getElem?_eq_getElem hil,hy,List.append_assoc]; rfl
     replace hy := Lib.hid hy
     have nlast : LastR S w (.slice (some ⟨b2,o2 + i,none⟩) 1 (C1 - i)) (P ++ l.take i ++ [y]) := .inr ⟨_,y,b2,o2 + i,C1 - i,A2,C2,rfl,rfl,hk0,hkr⟩
     replace htk := Lib.hid htk
     have hk1 := (zac (hbw.block b2 (zaj hk0)) _).trans hk0
     have hkr1 := hkr.below hbw
     clear hk0 hkr
     rcases hlast with ⟨hP0,rfl⟩ | ⟨Q,x,b4,o4,C4,A4,L4,hQ,rfl,hc4,hr4⟩
     ·have hris2 : Ris (P ++ l.take i ++ [y]) := by rw [hP0]; unfold Ris; simp
      replace hP0 := Lib.hid hP0
      go_wp2_with (first | (refine zag kysP.toLsP rfl rfl rfl (l := i) (r := i + 1) (zbg _ rfl (by omega) (by omega) (by omega)) (by omega) ?_) | fail)
      go_roundw
      case rel => exact ⟨i + 1,by omega,by go_num,by rw [htk.out]; exact nlast,by rw [htk.out]; exact hris2,hb2⟩
      case measure => simp [intOf]; omega
     ·have hc5 := (zac (hbw.block b4 (zaj hc4)) _).trans hc4
      have hcmp := zbw wr (hr4.below hbw) hkr1
      have hge := cmp_ge x y
      obtain ⟨cb,hcb⟩ : ∃ cb,cb = Lib.compareBytes x y := ⟨_,rfl⟩
      rw [← hcb] at hcmp hge
      replace hcb := Lib.hid hcb
      clear hc4 hr4
      cases hxy : ltB x y with
      | true =>
       rw [hxy] at hge
       have hge2 : decide (0 ≤ cb) = false := hge
       have hris2 : Ris (P ++ l.take i ++ [y]) := by rw [hQ] at hris ⊢; exact znw.2 ⟨hris,hxy⟩
       replace hQ := Lib.hid hQ
       replace hxy := Lib.hid hxy
       clear hge
       go_wp2_with fail
       refine hcmp.mono ?_
       rintro e w3 ⟨rfl,rfl⟩
       go_wp2_with (first | (refine zag kysP.toLsP rfl rfl rfl (l := i) (r := i + 1) (zbg _ rfl (by omega) (by omega) (by omega)) (by omega) ?_) | fail)
       go_roundw
       case rel => exact ⟨i + 1,by omega,by go_num,by rw [htk.out]; exact nlast,by rw [htk.out]; exact hris2,hb2⟩
       case measure => simp [intOf]; omega
      | false =>
       rw [hxy] at hge
       have hge2 : decide (0 ≤ cb) = true := hge
       have ho : out = false := by
        rw [hout.out]
        refine decide_eq_false fun h => ?_
        have e1 : ls.flatten = P ++ l.take i ++ [y] ++ (l.drop (i + 1) ++ (ls.drop (r + 1)).flatten) := by
         have e2 : ls = ls.take r ++ [l] ++ ls.drop (r + 1) := by
          rw [hll.out,List.append_assoc,List.singleton_append,← List.drop_eq_getElem_cons hlt,List.take_append_drop]
         have e3 : P ++ l.take i ++ [y] ++ l.drop (i + 1) = P ++ l := by rw [← htk.out,List.append_assoc,List.take_append_drop]
         rw [← List.append_assoc,e3,hP.out]
         conv => lhs; rw [e2]
         simp
        rw [e1] at h
        have h2 := ris_pre h
        rw [hQ] at h2
        have := (znw.1 h2).2
        rw [hxy] at this
        cases this
       replace hQ := Lib.hid hQ
       replace hxy := Lib.hid hxy
       replace ho := Lib.hid ho
       clear hge
       go_wp2_with fail
       refine hcmp.mono ?_
       rintro e w3 ⟨rfl,rfl⟩
       go_wp2_with fail
       go_ret
       exact ⟨by rw [ho.out] <;> rfl,hbw⟩
    ·obtain rfl : i = l.length := by omega
     rw [List.take_length] at hlast hris
     have e1 : (ls.take (r + 1)).flatten = P ++ l := by
      rw [List.take_add_one,List.getElem?_eq_getElem hlt,Option.toList_some,List.flatten_append,← hP.out,← hll.out]
      simp
     replace e1 := Lib.hid e1
     go_wp2_with fail
     go_roundw
     case rel => exact ⟨r + 1,by omega,by go_num,by rw [e1.out]; exact hlast,by rw [e1.out]; exact hris,hbw⟩
     case measure => simp [intOf]; omega
  ·obtain rfl : r = ls.length := by omega
   rw [List.take_length] at hris
   have ho : out = true := by rw [hout.out]; exact decide_eq_true hris
   replace ho := Lib.hid ho
   go_wp2_with fail
   go_ret
   exact ⟨by rw [ho.out] <;> rfl,hb⟩
theorem RdL.oneAt {S : Nat → Prop} {w : World} {b off m c : Nat} {ks : List (List UInt8)} (h : RdL Elt.bytes S w (.slice (Option.some ⟨b,off,none⟩) m c) ks) {r : Nat} (hr : r < ks.length) : RdL Elt.bytes S w (.slice (Option.some ⟨b,off + r,none⟩) 1 (c - r)) [ks[r]] := by
 obtain ⟨a',cap,e,h2,h3,h4⟩ := h
 cases e
 rcases h4 with rfl | ⟨b',off',e,hb,hq⟩
 ·cases hr
 ·cases e
  obtain ⟨vs,hR,hc⟩ := hq r hr
  refine ⟨_,_,rfl,by show 1 ≤ c - r; omega,by omega,.inr ⟨b,off + r,rfl,hb,fun r' h' => ?_⟩⟩
  obtain rfl : r' = 0 := by simp at h'; exact h'
  refine ⟨vs,hR,fun j u hj => ?_⟩
  have := hc j u hj
  simpa [show Elt.bytes.size = 1 from rfl] using this
def DepAt (N:Nat):Prop:=∀ (w:World) (S:Nat→Prop) (v:Value) (n:Nd) (la:Option Addr) (lm lc:Nat) (low:List (List UInt8)) (ha:Option Addr) (hm hc:Nat) (high:List (List UInt8)),wN n≤N→N≤1000000→RdN S w v n→RdL Elt.bytes S w (.slice la lm lc) low→RdL Elt.bytes S w (.slice ha hm hc) high→low.length≤1→high.length≤1 →
 Calls Tryz.prog 77 #[v,.slice la lm lc,.slice ha hm hc] w fun e w'=>e=.returned (.int .i64 (depF n low high:Nat))∧Below w.heap.size w w'
theorem dep_step (N : Nat) (ih : ∀ M,M < N → DepAt M) : DepAt N := by
 intro w S v n la lm lc low ha hm hc high hN hN2 hr hlo hhi hl1 hh1
 have hw3 := zg3 n
 have hkid := fun m (h : m ∈ n.kids) => zev h
 have hr0 := hr
 obtain ⟨a1,c1,a2,c2,a3,c3,rfl,rk,rc,rn⟩ := hr
 obtain ⟨rfl,hlc,hlm⟩ := hlo.len
 obtain ⟨rfl,hhc,hhm⟩ := hhi.len
 have q : Below w.heap.size w (w.alloc (.cells #[.slice a1 n.keys.length c1,.slice a2 n.chains.length c2,.slice a3 n.kids.length c3] 26)) := (Below.refl _ _).alloc (Nat.le_refl _) _
 have bn := TriV.new w 26 (.slice a1 n.keys.length c1) (.slice a2 n.chains.length c2) (.slice a3 n.kids.length c3)
 obtain ⟨W,hW⟩ : ∃ W,W = w.alloc (.cells #[.slice a1 n.keys.length c1,.slice a2 n.chains.length c2,.slice a3 n.kids.length c3] 26) := ⟨_,rfl⟩
 rw [← hW] at q bn
 obtain ⟨out,hout⟩ : ∃ out,out = depF n low high := ⟨_,rfl⟩
 rw [← hout]
 replace hout := Lib.hid hout
 have hal := zo1 W (hr0.below q)
 have tn0 := bn.cell0
 have tn1 := bn.cell1
 have tn2 := bn.cell2
 clear hr0
 by_cases hA : aloF n
 ·rw [decide_eq_true hA] at hal
  obtain ⟨bk0,ok0,_,_,rfl,_,_⟩ := rk.byt 0 (by have := hA.1; omega)
  have hk3 := hA.2.1
  have hkk : n.kids.length ≤ 4 := by rcases hA.2.2.2.2 with h | h; rw [h]; simp; omega
  go_enter Tryz.func77,Tryz.ntmps77
  go_upto_region 1 with (fail)
  rw [← hW]
  clear hW
  go_wp2_with fail
  refine hal.mono ?_
  rintro e w1 ⟨rfl,hb1⟩
  have bn1 := bn.below hb1 bn.lt
  have q1 := q.trans (hb1.mono q.size)
  clear tn0 tn1 tn2 hal bn
  have tn0 := bn1.cell0
  have tn2 := bn1.cell2
  go_wp2_with fail
  have qn : Below w1.heap.size w1 (w1.alloc (.cells #[.slice la low.length lc,.slice (Option.some ⟨bk0,ok0,none⟩) n.keys.length c1,.slice ha high.length hc] 22)) := (Below.refl _ _).alloc (Nat.le_refl _) _
  have hblk : (w1.alloc (.cells #[.slice la low.length lc,.slice (Option.some ⟨bk0,ok0,none⟩) n.keys.length c1,.slice ha high.length hc] 22)).heap[w1.heap.size]? = Option.some (.cells #[.slice la low.length lc,.slice (Option.some ⟨bk0,ok0,none⟩) n.keys.length c1,.slice ha high.length hc] 22 (0,0)) := by simp only [World.alloc,Array.getElem?_push_size]
  generalize w1.alloc (.cells #[.slice la low.length lc,.slice (Option.some ⟨bk0,ok0,none⟩) n.keys.length c1,.slice ha high.length hc] 22) = w2 at *
  have q2 := q1.trans (qn.mono q1.size)
  have bn2 := bn1.below qn bn1.lt
  have hrl : RdL (Elt.list Elt.bytes) (fun _ => True) w2 (.slice (Option.some ⟨w1.heap.size,0,none⟩) 3 3) [low,n.keys,high] := by
   refine ⟨_,3,rfl,Nat.le_refl _,by unfold maxLen; omega,.inr ⟨w1.heap.size,0,rfl,trivial,fun r hr => ?_⟩⟩
   have hcell : ∀ k u,#[Value.slice la low.length lc,Value.slice (Option.some ⟨bk0,ok0,none⟩) n.keys.length c1,.slice ha high.length hc][k]? = Option.some u → ∀ j u',[u][j]? = Option.some u' → w2.cell? ⟨w1.heap.size,0 + k * 1 + j,none⟩ = Option.some u' := fun k u h j u' hj => by
    rcases j with _ | j
    ·have e : u = u' := by simpa using hj
     subst e
     simp [World.cell?,hblk,h]
    ·simp at hj
   rcases r with _ | _ | _ | r
   ·exact ⟨_,⟨_,rfl,(hlo.below q2).weak fun _ _ => trivial⟩,hcell 0 _ rfl⟩
   ·exact ⟨_,⟨_,rfl,(rk.below q2).weak fun _ _ => trivial⟩,hcell 1 _ rfl⟩
   ·exact ⟨_,⟨_,rfl,(hhi.below q2).weak fun _ _ => trivial⟩,hcell 2 _ rfl⟩
   ·exact absurd hr (by simp only [List.length_cons,List.length_nil]; omega)
  have hris := zp6 w2 hrl (by simp) (fun l hl => by
   simp only [List.mem_cons,List.not_mem_nil,or_false] at hl
   rcases hl with rfl | rfl | rfl <;> omega)
  have hfl : [low,n.keys,high].flatten = low ++ n.keys ++ high := by simp
  rw [hfl] at hris
  replace hfl := Lib.hid hfl
  clear hblk hrl tn0 tn2 bn1
  by_cases hR : Ris (low ++ n.keys ++ high)
  ·rw [decide_eq_true hR] at hris
   refine hris.mono ?_
   rintro e w3 ⟨rfl,hb3⟩
   have q3 := q2.trans (hb3.mono q2.size)
   have bn3 := bn2.below hb3 bn2.lt
   clear hris bn2
   have tn0 := bn3.cell0
   have tn2 := bn3.cell2
   replace hR := Lib.hid hR
   replace hA := Lib.hid hA
   go_wp2_with fail
   go_loopw [7,8,9,10,11,12,28] (fun bv _ _ _ _ _ iv wr => ∃ j b : Nat,j ≤ n.kids.length ∧ iv = .int .i64 j ∧ bv = .int .i64 b ∧ (j = 0 → b = 0) ∧ (0 < j → 0 < b) ∧ b ≤ 1000000 ∧ (∀ i (hi : i < n.kids.length),i < j → depF n.kids[i] (loK n.keys low i) (hiK n.keys high i) = b) ∧ Below w3.heap.size w3 wr) (fun _ _ _ _ _ _ iv _ => n.kids.length - (intOf iv).toNat)
   case atStart => exact ⟨0,0,Nat.zero_le _,rfl,rfl,fun _ => rfl,fun h => absurd h (Nat.lt_irrefl _),Nat.zero_le _,fun i _ h => absurd h (Nat.not_lt_zero _),Below.refl _ _⟩
   case round =>
    obtain ⟨j,b,hj,rfl,rfl,hb0,hb1',hbm,hall,hbw⟩ := hrel
    have qw := q3.trans (hbw.mono q3.size)
    rcases Nat.lt_or_ge j n.kids.length with hlt | hge
    ·have hkl : n.kids.length = n.keys.length + 1 := by
      rcases hA.out.2.2.2.2 with h | h
      ·rw [h] at hlt; cases hlt
      ·exact h
     have hk1 := Nat.le_of_eq hkl
     have hk2 := Nat.le_of_eq hkl.symm
     clear hkl
     obtain ⟨gb,off,xa,xc,ya,yc,za,zc,rfl,k0,k1,k2,hrk⟩ := rn.kid j hlt
     replace k0 := (zac (qw.block gb (zaj k0)) _).trans k0
     replace k1 := (zac (qw.block gb (zaj k1)) _).trans k1
     replace k2 := (zac (qw.block gb (zaj k2)) _).trans k2
     have hwk := hkid _ (List.getElem_mem hlt)
     have bn4 := bn3.below hbw bn3.lt
     clear tn0 tn2
     go_upto_region 7 with (go_big_may; first
      | (refine zcn rfl rfl ?_; intro w4 hb4 ht4)
      | (refine zaf rfl rfl rfl rfl rfl rfl rfl rfl ht4 ?_; intro w5 hg5 bk5)
      | fail)
     have qW : Below wr.heap.size wr w5 := hb4.grown hg5 hb4.size fun k hk => by injection hk with hk; omega
     have q5 := qw.trans (qW.mono qw.size)
     have bn5 := bn4.below qW bn4.lt
     clear hb4 hg5 ht4 k0 k1 k2 bn4
     have tn0 := bn5.cell0
     have tk0 := bk5.cell0
     have tk1 := bk5.cell1
     have tk2 := bk5.cell2
     have hcap := rk.len.2
     have hdw : ∀ (la' : Option Addr) (lm' lc' : Nat) (ha' : Option Addr) (hm' hc' : Nat),RdL Elt.bytes S w (.slice la' lm' lc') (loK n.keys low j) → RdL Elt.bytes S w (.slice ha' hm' hc') (hiK n.keys high j) → Calls Tryz.prog 77 #[.agg #[.slice xa n.kids[j].keys.length xc,.slice ya n.kids[j].chains.length yc,.slice za n.kids[j].kids.length zc],.slice la' lm' lc',.slice ha' hm' hc'] w5 fun e w' => e = .returned (.int .i64 (depF n.kids[j] (loK n.keys low j) (hiK n.keys high j) : Nat)) ∧ Below w5.heap.size w5 w' := fun la' lm' lc' ha' hm' hc' h1 h2 =>
      ih (wN n.kids[j]) (by omega) w5 S _ _ la' lm' lc' _ ha' hm' hc' _ (Nat.le_refl _) (by omega) (hrk.below q5) (h1.below q5) (h2.below q5) (by unfold loK; split; exact hl1; cases n.keys[j - 1]? <;> simp) (by unfold hiK; split; cases n.keys[j]? <;> simp; exact hh1)
     have hstop : depF n.kids[j] (loK n.keys low j) (hiK n.keys high j) = 0 → out = 0 := fun h0 => by
      rw [hout.out]
      exact Decidable.byContradiction fun hd => (zkc hA.out hd j hlt).2 h0
     have hdiff : 0 < j → depF n.kids[j] (loK n.keys low j) (hiK n.keys high j) ≠ b → out = 0 := fun h0 hne => by
      rw [hout.out]
      refine Decidable.byContradiction fun hd => hne ?_
      have e1 := (zkc hA.out hd j hlt).1
      have e2 := (zkc hA.out hd 0 (by omega)).1
      have e3 := hall 0 (by omega) h0
      omega
     have hnext : depF n.kids[j] (loK n.keys low j) (hiK n.keys high j) ≠ 0 → (0 < j → depF n.kids[j] (loK n.keys low j) (hiK n.keys high j) = b) → ∀ i (hi : i < n.kids.length),i < j + 1 → depF n.kids[i] (loK n.keys low i) (hiK n.keys high i) = depF n.kids[j] (loK n.keys low j) (hiK n.keys high j) := fun _ h2 i hi hij => by
      rcases Nat.lt_or_ge i j with h3 | h3
      ·rw [hall i hi h3,h2 (by omega)]
      ·obtain rfl : i = j := by omega
       rfl
     have hdm : depF n.kids[j] (loK n.keys low j) (hiK n.keys high j) ≤ 1000000 := by
      have h1 := (zfa (wN n.kids[j]) (n := n.kids[j]) (root := false) (Nat.le_refl _)).2
      unfold depF
      split
      ·omega
      ·omega
     generalize hdj : depF n.kids[j] (loK n.keys low j) (hiK n.keys high j) = dj at hdw hstop hdiff hnext hdm
     replace hdj := Lib.hid hdj
     replace hall := Lib.hid hall
     clear hrk hwk hkid ih
     rcases Nat.eq_zero_or_pos j with hj0 | hj0
     ·have d5 : decide ((0 : Int) < (j : Int)) = false := decide_eq_false (by omega)
      have hlow : RdL Elt.bytes S w (.slice la low.length lc) (loK n.keys low j) := by unfold loK; rw [if_pos hj0]; exact hlo
      have hj0a := Nat.le_of_eq hj0
      replace hj0 := Lib.hid hj0
      rcases Nat.lt_or_ge (j) n.keys.length with hjk | hjk
      ·have d6 : decide ((j : Int) < (n.keys.length : Int)) = true := decide_eq_true (by omega)
       have hhigh : RdL Elt.bytes S w (.slice (Option.some ⟨bk0,ok0 + (j),none⟩) 1 (c1 - (j))) (hiK n.keys high (j)) := by
        unfold hiK
        rw [if_pos hjk,List.getElem?_eq_getElem hjk]
        exact rk.oneAt hjk
       go_wp2_with (first | (refine zag kysP.toLsP rfl rfl rfl (l := j) (r := j + 1) (zbg _ (by omega) (by omega) (by omega) (by omega)) (by omega) ?_) | fail)
       refine (hdw _ _ _ _ _ _ hlow hhigh).mono ?_
       rintro e w6 ⟨rfl,hb6⟩
       clear hdw hlow hhigh tn0 tk0 tk1 tk2
       rcases Nat.eq_zero_or_pos dj with hd0 | hd0
       ·have ho := hstop hd0
        have d7 : ((dj : Int) == 0) = true := by rw [hd0]; rfl
        replace hd0 := Lib.hid hd0
        clear hstop hdiff hnext
        replace ho := Lib.hid ho
        go_wp2_with fail
        go_ret
        exact ⟨by rw [ho.out] <;> rfl,q5.trans (hb6.mono q5.size)⟩
       ·have d7 : ((dj : Int) == 0) = false := beq_eq_false_iff_ne.2 (by omega)
        have hnx := hnext (by omega) (fun h => absurd h (by omega))
        replace hnx := Lib.hid hnx
        clear hstop hdiff hnext
        go_wp2_with fail
        go_roundw
        case rel => exact ⟨j + 1,dj,by omega,by go_num,by go_num,fun h => absurd h (by omega),fun _ => hd0,hdm,hnx.out,hbw.trans ((qW.trans (hb6.mono qW.size)).mono hbw.size)⟩
        case measure => simp [intOf]; omega
      ·have d6 : decide ((j : Int) < (n.keys.length : Int)) = false := decide_eq_false (by omega)
       have hhigh : RdL Elt.bytes S w (.slice ha high.length hc) (hiK n.keys high (j)) := by unfold hiK; rw [if_neg (by omega)]; exact hhi
       go_wp2_with fail
       refine (hdw _ _ _ _ _ _ hlow hhigh).mono ?_
       rintro e w6 ⟨rfl,hb6⟩
       clear hdw hlow hhigh tn0 tk0 tk1 tk2
       rcases Nat.eq_zero_or_pos dj with hd0 | hd0
       ·have ho := hstop hd0
        have d7 : ((dj : Int) == 0) = true := by rw [hd0]; rfl
        replace hd0 := Lib.hid hd0
        clear hstop hdiff hnext
        replace ho := Lib.hid ho
        go_wp2_with fail
        go_ret
        exact ⟨by rw [ho.out] <;> rfl,q5.trans (hb6.mono q5.size)⟩
       ·have d7 : ((dj : Int) == 0) = false := beq_eq_false_iff_ne.2 (by omega)
        have hnx := hnext (by omega) (fun h => absurd h (by omega))
        replace hnx := Lib.hid hnx
        clear hstop hdiff hnext
        go_wp2_with fail
        go_roundw
        case rel => exact ⟨j + 1,dj,by omega,by go_num,by go_num,fun h => absurd h (by omega),fun _ => hd0,hdm,hnx.out,hbw.trans ((qW.trans (hb6.mono qW.size)).mono hbw.size)⟩
        case measure => simp [intOf]; omega
     ·obtain ⟨j',rfl⟩ : ∃ j',j = j' + 1 := ⟨j - 1,by omega⟩
      have d5 : decide ((0 : Int) < ((j' : Int) + 1)) = true := decide_eq_true (by omega)
      have hlow : RdL Elt.bytes S w (.slice (Option.some ⟨bk0,ok0 + j',none⟩) 1 (c1 - j')) (loK n.keys low (j' + 1)) := by
       unfold loK
       rw [if_neg (by omega),Nat.add_sub_cancel,List.getElem?_eq_getElem (by omega : j' < n.keys.length)]
       exact rk.oneAt (by omega)
      rcases Nat.lt_or_ge (j' + 1) n.keys.length with hjk | hjk
      ·have d6 : decide (((j' : Int) + 1) < (n.keys.length : Int)) = true := decide_eq_true (by omega)
       have hhigh : RdL Elt.bytes S w (.slice (Option.some ⟨bk0,ok0 + (j' + 1),none⟩) 1 (c1 - (j' + 1))) (hiK n.keys high (j' + 1)) := by
        unfold hiK
        rw [if_pos hjk,List.getElem?_eq_getElem hjk]
        exact rk.oneAt hjk
       go_wp2_with (first | (refine zag kysP.toLsP rfl rfl rfl (l := j') (r := j' + 1) (zbg _ (by omega) (by omega) (by omega) (by omega)) (by omega) ?_) | (refine zag kysP.toLsP rfl rfl rfl (l := j' + 1) (r := j' + 1 + 1) (zbg _ (by omega) (by omega) (by omega) (by omega)) (by omega) ?_) | fail)
       refine (hdw _ _ _ _ _ _ hlow hhigh).mono ?_
       rintro e w6 ⟨rfl,hb6⟩
       clear hdw hlow hhigh tn0 tk0 tk1 tk2
       rcases Nat.eq_zero_or_pos dj with hd0 | hd0
       ·have ho := hstop hd0
        have d7 : ((dj : Int) == 0) = true := by rw [hd0]; rfl
        replace hd0 := Lib.hid hd0
        clear hstop hdiff hnext
        replace ho := Lib.hid ho
        go_wp2_with fail
        go_ret
        exact ⟨by rw [ho.out] <;> rfl,q5.trans (hb6.mono q5.size)⟩
       ·have d7 : ((dj : Int) == 0) = false := beq_eq_false_iff_ne.2 (by omega)
        by_cases hdb : dj = b
        ·have d8 : ((dj : Int) != (b : Int)) = false := zpf hdb
         have hnx := hnext (by omega) (fun _ => hdb)
         replace hnx := Lib.hid hnx
         replace hdb := Lib.hid hdb
         clear hstop hdiff hnext
         go_wp2_with fail
         go_roundw
         case rel => exact ⟨j' + 1 + 1,dj,by omega,by go_num,by go_num,fun h => absurd h (by omega),fun _ => hd0,hdm,hnx.out,hbw.trans ((qW.trans (hb6.mono qW.size)).mono hbw.size)⟩
         case measure => simp [intOf]; omega
        ·have ho := hdiff (by omega) hdb
         have d8 : ((dj : Int) != (b : Int)) = true := lenNe hdb
         clear hstop hdiff hnext
         replace ho := Lib.hid ho
         go_wp2_with fail
         go_ret
         exact ⟨by rw [ho.out] <;> rfl,q5.trans (hb6.mono q5.size)⟩
      ·have d6 : decide (((j' : Int) + 1) < (n.keys.length : Int)) = false := decide_eq_false (by omega)
       have hhigh : RdL Elt.bytes S w (.slice ha high.length hc) (hiK n.keys high (j' + 1)) := by unfold hiK; rw [if_neg (by omega)]; exact hhi
       go_wp2_with (first | (refine zag kysP.toLsP rfl rfl rfl (l := j') (r := j' + 1) (zbg _ (by omega) (by omega) (by omega) (by omega)) (by omega) ?_) | fail)
       refine (hdw _ _ _ _ _ _ hlow hhigh).mono ?_
       rintro e w6 ⟨rfl,hb6⟩
       clear hdw hlow hhigh tn0 tk0 tk1 tk2
       rcases Nat.eq_zero_or_pos dj with hd0 | hd0
       ·have ho := hstop hd0
        have d7 : ((dj : Int) == 0) = true := by rw [hd0]; rfl
        replace hd0 := Lib.hid hd0
        clear hstop hdiff hnext
        replace ho := Lib.hid ho
        go_wp2_with fail
        go_ret
        exact ⟨by rw [ho.out] <;> rfl,q5.trans (hb6.mono q5.size)⟩
       ·have d7 : ((dj : Int) == 0) = false := beq_eq_false_iff_ne.2 (by omega)
        by_cases hdb : dj = b
        ·have d8 : ((dj : Int) != (b : Int)) = false := zpf hdb
         have hnx := hnext (by omega) (fun _ => hdb)
         replace hnx := Lib.hid hnx
         replace hdb := Lib.hid hdb
         clear hstop hdiff hnext
         go_wp2_with fail
         go_roundw
         case rel => exact ⟨j' + 1 + 1,dj,by omega,by go_num,by go_num,fun h => absurd h (by omega),fun _ => hd0,hdm,hnx.out,hbw.trans ((qW.trans (hb6.mono qW.size)).mono hbw.size)⟩
         case measure => simp [intOf]; omega
        ·have ho := hdiff (by omega) hdb
         have d8 : ((dj : Int) != (b : Int)) = true := lenNe hdb
         clear hstop hdiff hnext
         replace ho := Lib.hid ho
         go_wp2_with fail
         go_ret
         exact ⟨by rw [ho.out] <;> rfl,q5.trans (hb6.mono q5.size)⟩
    ·obtain rfl : j = n.kids.length := by omega
     have ho : out = b + 1 := by
      rw [hout.out]
      rcases Nat.eq_zero_or_pos n.kids.length with hk0 | hk0
      ·rw [hb0 hk0]; exact zru hA.out hR.out (List.length_eq_zero_iff.1 hk0)
      ·exact depF_all hA.out hR.out hk0 (hb1' hk0) fun i hi => hall i hi hi
     replace ho := Lib.hid ho
     replace hall := Lib.hid hall
     replace hb0 := Lib.hid hb0
     clear hkid ih
     go_wp2_with fail
     go_ret
     exact ⟨by rw [ho.out] <;> simp,qw⟩
  ·rw [decide_eq_false hR] at hris
   have ho : out = 0 := by rw [hout.out]; exact zrt hA hR
   replace ho := Lib.hid ho
   refine hris.mono ?_
   rintro e w3 ⟨rfl,hb3⟩
   go_wp2_with fail
   go_ret
   exact ⟨by rw [ho.out] <;> rfl,q2.trans (hb3.mono q2.size)⟩
 ·rw [decide_eq_false hA] at hal
  have ho : out = 0 := by rw [hout.out]; exact zpj hA
  replace ho := Lib.hid ho
  go_enter Tryz.func77,Tryz.ntmps77
  go_upto_region 1 with (fail)
  rw [← hW]
  clear hW
  go_wp2_with fail
  refine hal.mono ?_
  rintro e w1 ⟨rfl,hb1⟩
  go_wp2_with fail
  go_ret
  exact ⟨by rw [ho.out] <;> rfl,q.trans (hb1.mono q.size)⟩
theorem dep_any(N:Nat):DepAt N:=by
 induction N using Nat.strongRecOn with
 | _ N ih=>exact dep_step N ih
theorem zka {n:Nd} {root:Bool}(h:0≤zax n root):1≤zax n root:=by
 obtain⟨_,_,_,h1|h1⟩:=zcb rfl h
 ·omega
 ·omega
theorem dep_ok (n:Nd):decide ((0:Int)<depN n)=decide (okN n):=by
 unfold depN
 by_cases h:okN n
 ·rw [if_pos h,decide_eq_true h]
  have:=zka h.1
  exact decide_eq_true (by omega)
 ·rw [if_neg h,decide_eq_false h]
  rfl
theorem zo0 (w:World) {S:Nat→Prop} {v:Value} {n:Nd} (hr:RdN S w v n) (hf:wN n≤1000000):Calls Tryz.prog 62 #[v] w fun e w'=>e=.returned (.int .i64 (depN n))∧Below w.heap.size w w':=by
 have hw3:=zg3 n
 have hr0:=hr
 obtain⟨a1,c1,a2,c2,a3,c3,rfl,_,_,_⟩:=hr
 have q:Below w.heap.size w (w.alloc (.cells #[.slice a1 n.keys.length c1,.slice a2 n.chains.length c2,.slice a3 n.kids.length c3] 26)):=(Below.refl _ _).alloc (Nat.le_refl _) _
 have bn:=TriV.new w 26 (.slice a1 n.keys.length c1) (.slice a2 n.chains.length c2) (.slice a3 n.kids.length c3)
 obtain⟨W,hW⟩:∃ W,W=w.alloc (.cells #[.slice a1 n.keys.length c1,.slice a2 n.chains.length c2,.slice a3 n.kids.length c3] 26):=⟨_,rfl⟩
 rw [← hW] at q bn
 have hdep:=dep_any (wN n) W S _ n none 0 0 [] none 0 0 [] (Nat.le_refl _) hf (hr0.below q) (RdL.nil _ _ _) (RdL.nil _ _ _) (Nat.zero_le _) (Nat.zero_le _)
 have hroot:=zrs n
 obtain⟨out,hout⟩:∃ out,out=depN n:=⟨_,rfl⟩
 rw [← hout] at hroot ⊢
 replace hout:=Lib.hid hout
 generalize depF n [] []=dd at hdep hroot
 have tn0:=bn.cell0
 have tn1:=bn.cell1
 have tn2:=bn.cell2
 by_cases h0:n.keys.length+n.chains.length+n.kids.length=0
 ·rw [if_pos h0] at hroot
  have d:((n.keys.length:Int)+(n.chains.length:Int)+(n.kids.length:Int)==0)=true:=by rw [beq_iff_eq];omega
  replace hroot:=Lib.hid hroot
  replace h0:=Lib.hid h0
  go_enter Tryz.func62,Tryz.ntmps62
  go_upto_region 1 with (fail)
  rw [← hW]
  clear hW
  go_wp2_with fail
  go_ret
  exact⟨by rw [hroot.out]<;>rfl,q⟩
 ·rw [if_neg h0] at hroot
  have d:((n.keys.length:Int)+(n.chains.length:Int)+(n.kids.length:Int)==0)=false:=beq_eq_false_iff_ne.2 (by omega)
  replace hroot:=Lib.hid hroot
  replace h0:=Lib.hid h0
  go_enter Tryz.func62,Tryz.ntmps62
  go_upto_region 1 with (fail)
  rw [← hW]
  clear hW
  go_wp2_with fail
  refine hdep.mono ?_
  rintro e w2⟨rfl,hb2⟩
  go_wp2_with fail
  go_ret
  exact⟨by rw [hroot.out]<;>rfl,q.trans (hb2.mono q.size)⟩
theorem zci (w:World) {S:Nat→Prop} {v:Value} {n:Nd} (hr:RdN S w v n) (hf:wN n≤1000000):Calls Tryz.prog 38 #[v] w fun e w'=>e=.returned (.bool (decide (okN n)))∧Below w.heap.size w w':=by
 have hr0:=hr
 obtain⟨a1,c1,a2,c2,a3,c3,rfl,_,_,_⟩:=hr
 have q:Below w.heap.size w (w.alloc (.cells #[.slice a1 n.keys.length c1,.slice a2 n.chains.length c2,.slice a3 n.kids.length c3] 26)):=(Below.refl _ _).alloc (Nat.le_refl _) _
 have bn:=TriV.new w 26 (.slice a1 n.keys.length c1) (.slice a2 n.chains.length c2) (.slice a3 n.kids.length c3)
 obtain⟨W,hW⟩:∃ W,W=w.alloc (.cells #[.slice a1 n.keys.length c1,.slice a2 n.chains.length c2,.slice a3 n.kids.length c3] 26):=⟨_,rfl⟩
 rw [← hW] at q bn
 have hdep:=zo0 W (hr0.below q) hf
 have hok:=dep_ok n
 generalize depN n=dd at hdep hok
 generalize decide (okN n)=out at hok ⊢
 have tn0:=bn.cell0
 have tn1:=bn.cell1
 have tn2:=bn.cell2
 go_enter Tryz.func38,Tryz.ntmps38
 go_upto_region 1 with (fail)
 rw [← hW]
 clear hW
 go_wp2_with fail
 refine hdep.mono ?_
 rintro e w2⟨rfl,hb2⟩
 go_wp2_with fail
 go_ret
 exact⟨rfl,q.trans (hb2.mono q.size)⟩
theorem ok_wf : ∀ (d : Nat) {n : Nd} {root : Bool},zax n root = (d : Int) → Wf d (if root then 0 else 1) 3 n ∧ (root = true → d = 1 ∨ 1 ≤ n.keys.length)
 | 0,n,root,h => by have := zka (n := n) (root := root) (by omega); omega
 | d + 1,n,root,h => by
  obtain ⟨h1,h2,h3,h4⟩ := zcb h (by omega)
  refine ⟨⟨h1,?_,h2,?_⟩,fun _ => ?_⟩
  ·cases root with
   | true => exact Nat.zero_le _
   | false => exact h3 rfl
  ·rcases h4 with ⟨h5,h6⟩ | ⟨h5,_,h7,h8⟩
   ·exact .inl ⟨by omega,h5⟩
   ·refine .inr ⟨by omega,h5,fun m hm => ?_⟩
    have := (ok_wf d (n := m) (root := false) (by rw [h8 m hm]; omega)).1
    simpa using this
  ·rcases h4 with ⟨_,h6⟩ | ⟨_,h6,_⟩
   ·exact .inl (by omega)
   ·exact .inr h6
theorem zpy:∀ (d:Nat) {n:Nd},Wf d 1 3 n→zax n false=(d:Int)
 | 0,n,h=>h.elim
 | d+1,n,h=>by
  obtain⟨h1,h2,h3,h4⟩:=h
  rcases h4 with⟨h5,h6⟩|⟨h5,h6,h7⟩
  ·rw [zlx h1 h2 h3 h6,h5];rfl
  ·rw [zrj (b:=(d:Int)) h1 h2 h3 h6 (by omega) fun m hm=>zpy d (h7 m hm)];rfl
theorem zqz {n:Nd}(h:okN n):∃ d,Pn d n:=by
 obtain⟨h1,h2⟩:=h
 obtain⟨d,hd⟩:∃ d:Nat,zax n true=(d:Int):=⟨(zax n true).toNat,by omega⟩
 obtain⟨h3,h4⟩:=ok_wf d hd
 exact⟨d,by simpa using h3,h4 rfl,((zco _).1 h2).2⟩
theorem pn_ok {d : Nat} {n : Nd} (h : Pn d n) (hg : ∀ p ∈ zaa n,zik p) : okN n := by
 refine ⟨?_,(zco _).2 ⟨hg,h.srt⟩⟩
 by_cases h1 : 1 ≤ n.keys.length
 ·rw [zkb n h1,zpy d (h.wf.mono h1 h.wf.keys.2)]; omega
 ·have hd : d = 1 := h.ne.resolve_right h1
  subst hd
  obtain ⟨hc,_,_,hs⟩ := h.wf
  rcases hs with ⟨_,h0⟩ | ⟨h0,_⟩
  ·rw [zb5,if_neg (by simp; omega),if_pos (by rw [h0]; rfl)]; omega
  ·exact absurd h0 (Nat.lt_irrefl 0)
theorem NdOf.done {D:Nat→Prop} {w W0 W1 W W':World} {lo b:Nat} {F F':List Nat} {v:Value} {n:Nd} (h:NdOf D W1 lo F W v n F') (q0:Below w.heap.size w W0) (q1:Below W0.heap.size W0 W1) (hD:∀ k,D k→W0.heap.size≤k) (hF:∀ k∈F,W0.heap.size≤k) (hg:W.grownBy W' (some b)) (h1:w.heap.size≤b) (h2:b<W0.heap.size) :
  RdN (fun k=>w.heap.size≤k∧k<W'.heap.size) W' v n∧Below w.heap.size w W':=by
 have hS:∀ k,(D k∨k∈F')→W0.heap.size≤k:=fun k hk=>by
  rcases hk with hk | hk
  ·exact hD k hk
  ·rcases h.fr k hk with h3 | h3
   ·exact hF k h3
   ·have:=h.lo1;have:=q1.size;omega
 have hr:=h.at'.rdN.fit
 have qa:Below w.heap.size w W:=(q0.trans (q1.mono q0.size)).trans (h.trd.below (Nat.le_trans q0.size q1.size) fun k hk hf=>by have:=hF k hf;have:=q0.size;omega)
 refine⟨(hr.keep fun k hk=>hg.block k hk.2 fun e=>?_).weak fun k hk=>⟨Nat.le_trans q0.size (hS k hk.1),Nat.lt_of_lt_of_le hk.2 hg.size⟩,qa.grown hg qa.size fun k e=>by injection e with e;omega⟩
 injection e with e
 have:=hS k hk.1
 omega
theorem zmi (w : World) {S S2 : Nat → Prop} {v : Value} {n : Nd} {a : Option Addr} {m c : Nat} {k : List UInt8} (hr : RdN S w v n) (hf : fitN n) (hk : RdS S2 w (.slice a m c) k) :
  Calls Tryz.prog 69 #[v,.slice a m c] w (zr2 w (zkk n k)) := by
 have hr0 := hr
 obtain ⟨a1,c1,a2,c2,a3,c3,rfl,_,_,_⟩ := hr
 obtain ⟨W,hW,q,bn,bz,hsz⟩ := zbx w 26 (.slice a1 n.keys.length c1) (.slice a2 n.chains.length c2) (.slice a3 n.kids.length c3) (.slice none 0 0) (.slice none 0 0) (.slice none 0 0)
 have hcp := zi3 (wN n) n W (Nat.le_refl _) hf.1 hf.2 (hr0.below q)
 have tn0 := bn.cell0
 have tn1 := bn.cell1
 have tn2 := bn.cell2
 obtain ⟨fs,hu,_⟩ := ndS.hu
 have hwn : wN n ≤ 1000000 := by have := hf.1; omega
 clear hr0
 go_enter Tryz.func69,Tryz.ntmps69
 go_upto_region 1 with (fail)
 rw [← hW]
 clear hW
 go_wp2_with fail
 refine hcp.mono ?_
 rintro e W1 ⟨v',rfl,F,hat,hF,hb1⟩
 obtain ⟨x1,d1,x2,d2,x3,d3,_,_,_,_,rfl,_⟩ := hat.opn
 have bz1 := bz.below hb1 bz.lt
 clear tn0 tn1 tn2 hcp bn bz
 go_upto_region 2 with (first
  | (refine zcn rfl rfl ?_; intro W2 hb2 ht2)
  | (refine zaf rfl rfl rfl rfl rfl rfl rfl rfl ht2 ?_; intro W3 hg3 bk)
  | fail)
 have s0 := (NdOf.start (lo := W1.heap.size + 1) hat hb2 (by omega) (by have := ht2.lt; omega)).box hg3 (Nat.le_refl _) (by omega)
 have bz3 := (bz1.below hb2 bz1.lt).other hg3 (by have := hb1.size; omega)
 have qb : Below W1.heap.size W1 W3 := hb2.grown hg3 hb2.size fun k e => by injection e with e; omega
 have hk3 := ((hk.below q).below hb1).below qb
 clear ht2 hg3 hb2 bz1 qb
 have hch := zci W3 s0.at'.rdN hwn
 have tk0 := bk.cell0
 have tk1 := bk.cell1
 have tk2 := bk.cell2
 by_cases hok : okN n
 ·obtain ⟨d,hpn⟩ := zqz hok
  rw [decide_eq_true hok] at hch
  go_wp2_with fail
  refine hch.mono ?_
  rintro e W4 ⟨rfl,hb4⟩
  have s4 := s0.more hb4
  have bk4 := bk.below hb4 bk.lt
  have bz4 := bz3.below hb4 bz3.lt
  clear tk0 tk1 tk2 hch bk bz3 s0
  have tk0 := bk4.cell0
  have tk1 := bk4.cell1
  have tk2 := bk4.cell2
  have hk4 := hk3.below hb4
  have hfd := zog W4 s4.at'.rdN hpn hk4
  obtain ⟨fo,hfo⟩ : ∃ fo,fo = zaw (zaa n) k := ⟨_,rfl⟩
  rw [← hfo] at hfd
  go_wp2_with fail
  refine hfd.mono ?_
  rintro e W5 ⟨⟨ga,gc,rfl,_⟩,hb5⟩
  have s5 := s4.more hb5
  have bk5 := bk4.below hb5 bk4.lt
  have bz5 := bz4.below hb5 bz4.lt
  have hk5 := hk4.below hb5
  clear tk0 tk1 tk2 hfd bk4 bz4 s4 hk4
  have tk0 := bk5.cell0
  have tk1 := bk5.cell1
  have tk2 := bk5.cell2
  cases fo with
  | none =>
   have hq : zkk n k n 61 := by unfold zkk; rw [if_pos hok,← hfo]; exact ⟨rfl,rfl⟩
   replace hfo := Lib.hid hfo
   go_wp2_with (first | (refine zaf rfl rfl rfl rfl rfl rfl rfl rfl bz5 ?_; intro W6 hg6 bz6) | fail)
   obtain ⟨hrd,hbl⟩ := s5.done q hb1 (fun g hd => hd.1) hF hg6 (by omega) (by omega)
   exact bodyPost_ret (v := .tuple #[.agg #[.slice x1 n.keys.length d1,.slice x2 n.chains.length d2,.slice x3 n.kids.length d3],.int .i64 61]) (by simp [results,Tryz.results69,go_sem,loadVar,isAgg,run_underlying hu,zab ndS.hs,loadCellsFrom,Addr.add,bz6.cell0,bz6.cell1,bz6.cell2]) rfl ⟨_,n,61,rfl,hq,hrd,hbl⟩
  | some fc =>
   have hne : zaw (zaa n) k ≠ none := by rw [← hfo]; simp
   have hwo := zhg d W5 _ _ n F a m c k S2 s5.at' hpn hne hk5
   have hfin : ∀ n1,DelN d n k n1 → zkk n k (zgg n1) 0 ∧ Wf d 0 4 n1 := fun n1 h1 => by
    have hs1 : Srt (zaa n1) := by rw [h1.2]; exact zrv hpn.srt
    have hw1 : Wf d 0 4 n1 := h1.1.mono (Nat.zero_le _) (by have := h1.1.keys; omega)
    obtain ⟨⟨d',hp'⟩,hpr⟩ := zk5 hw1 hs1
    refine ⟨?_,hw1⟩
    unfold zkk
    rw [if_pos hok,← hfo,if_pos (show (some fc).isSome = true from rfl)]
    exact ⟨rfl,pn_ok hp' (by rw [hpr,h1.2]; exact fun p hp => ((zco _).1 hok.2).1 p (zrw hp)),by rw [hpr,h1.2]⟩
   replace hfo := Lib.hid hfo
   replace hne := Lib.hid hne
   go_wp2_with fail
   refine hwo.mono ?_
   rintro e W6 hto
   obtain ⟨v6,n6,F6,rfl,hd6,s6,t6⟩ := s5.step hto
   obtain ⟨hdel,hwf⟩ := hfin n6 hd6
   have bz6 : TriV W6 (w.heap.size + 1) 26 _ _ _ := (t6.block _ bz5.lt (fun hm => by have := hF _ hm; omega)).trans bz5
   have hrt := zis W6 s6.at' hwf
   clear hto t6 bk5 bz5 tk0 tk1 tk2 hwo s5 hfin
   go_wp2_with fail
   refine hrt.mono ?_
   rintro e W7 hto
   obtain ⟨v7,n7,F7,rfl,hq7,s7,t7⟩ := s6.step hto
   obtain ⟨y1,e1,y2,e2,y3,e3,_,_,_,_,rfl,_⟩ := s7.at'.opn
   have bz7 : TriV W7 (w.heap.size + 1) 26 _ _ _ := (t7.block _ bz6.lt (fun hm => by
    rcases s6.fr _ hm with h1 | h1
    ·have := hF _ h1; omega
    ·have := s6.lo1; have := hb1.size; omega)).trans bz6
   replace hq7 := Lib.hid hq7
   clear hto t7 bz6 hrt s6
   go_wp2_with (first | (refine zaf rfl rfl rfl rfl rfl rfl rfl rfl bz7 ?_; intro W8 hg8 bz8) | fail)
   obtain ⟨hrd,hbl⟩ := s7.done q hb1 (fun g hd => hd.1) hF hg8 (by omega) (by omega)
   exact bodyPost_ret (v := .tuple #[.agg #[.slice y1 n7.keys.length e1,.slice y2 n7.chains.length e2,.slice y3 n7.kids.length e3],.int .i64 0]) (by simp [results,Tryz.results69,go_sem,loadVar,isAgg,run_underlying hu,zab ndS.hs,loadCellsFrom,Addr.add,bz8.cell0,bz8.cell1,bz8.cell2]) rfl ⟨_,n7,0,rfl,by rw [hq7.out]; exact hdel,hrd,hbl⟩
 ·rw [decide_eq_false hok] at hch
  go_wp2_with fail
  refine hch.mono ?_
  rintro e W4 ⟨rfl,hb4⟩
  have s4 := s0.more hb4
  have bk4 := bk.below hb4 bk.lt
  have bz4 := bz3.below hb4 bz3.lt
  clear tk0 tk1 tk2 hch bk bz3 s0
  have tk0 := bk4.cell0
  have tk1 := bk4.cell1
  have tk2 := bk4.cell2
  go_wp2_with (first | (refine zaf rfl rfl rfl rfl rfl rfl rfl rfl bz4 ?_; intro W5 hg5 bz5) | fail)
  obtain ⟨hrd,hbl⟩ := s4.done q hb1 (fun g hd => hd.1) hF hg5 (by omega) (by omega)
  exact bodyPost_ret (v := .tuple #[.agg #[.slice x1 n.keys.length d1,.slice x2 n.chains.length d2,.slice x3 n.kids.length d3],.int .i64 1]) (by simp [results,Tryz.results69,go_sem,loadVar,isAgg,run_underlying hu,zab ndS.hs,loadCellsFrom,Addr.add,bz5.cell0,bz5.cell1,bz5.cell2]) rfl ⟨_,n,1,rfl,by unfold zkk; rw [if_neg hok]; exact ⟨rfl,rfl⟩,hrd,hbl⟩
def PutJ (w W0 W5:World) (n:Nd) (F:List Nat) (d:Nat) (k:List UInt8) (x:List Ver):List Value→World→Prop
 | [],W=>Below W5.heap.size W5 W
 | [vk],W=>Below W5.heap.size W5 W∧(∃ a m c,vk=.slice a m c∧RdS (fun g=>W5.heap.size≤g∧g<W.heap.size) W (.slice a m c) k)
 | [vk,vl],W=>Below W5.heap.size W5 W∧(∃ a m c,vk=.slice a m c∧RdS (fun g=>W5.heap.size≤g∧g<W.heap.size) W (.slice a m c) k)∧(∃ a m c,vl=.slice a m c∧RdL Elt.ver (fun g=>W5.heap.size≤g∧g<W.heap.size) W (.slice a m c) x)
 | [_,_,vp],W=>∃ D Wb lo n1 F1,NdOf D Wb lo F W vp n1 F1∧Below W5.heap.size W5 Wb∧(∀ g,D g→W0.heap.size≤g)∧PutN d n k x n1∧TriV W (w.heap.size+1) 26 (.slice none 0 0) (.slice none 0 0) (.slice none 0 0)
 | [_,_,_,vr],W=>∃ D Wb lo n1 F1,NdOf D Wb lo F W vr (zgg n1) F1∧Below W5.heap.size W5 Wb∧(∀ g,D g→W0.heap.size≤g)∧PutN d n k x n1∧TriV W (w.heap.size+1) 26 (.slice none 0 0) (.slice none 0 0) (.slice none 0 0)
 | [_,_,_,vr,_],W=>∃ n1 a b c,vr=.agg #[a,b,c]∧PutN d n k x n1∧RdN (fun g=>w.heap.size≤g∧g<W.heap.size) W (.agg #[a,b,c]) (zgg n1)∧Below w.heap.size w W∧TriV W (w.heap.size+1) 26 a b c
 | _,_=>False
theorem PutJ.more {w W0 W5:World} {n:Nd} {F:List Nat} {d:Nat} {k:List UInt8} {x:List Ver}:∀ (l:List Value) (W W':World),PutJ w W0 W5 n F d k x l W→Below W.heap.size W W'→PutJ w W0 W5 n F d k x l W'
 | [],_,_,h,hb=>Below.trans h (hb.mono (Below.size h))
 | [_],_,_,⟨h1,a,m,c,e,h2⟩,hb=>⟨h1.trans (hb.mono h1.size),a,m,c,e,(h2.below hb).weak fun _ hg=>⟨hg.1,Nat.lt_of_lt_of_le hg.2 hb.size⟩⟩
 | [_,_],_,_,⟨h1,⟨a,m,c,e,h2⟩,a',m',c',e',h3⟩,hb=>⟨h1.trans (hb.mono h1.size),⟨a,m,c,e,(h2.below hb).weak fun _ hg=>⟨hg.1,Nat.lt_of_lt_of_le hg.2 hb.size⟩⟩,a',m',c',e',(h3.below hb).weak fun _ hg=>⟨hg.1,Nat.lt_of_lt_of_le hg.2 hb.size⟩⟩
 | [_,_,_],_,_,⟨D,Wb,lo,n1,F1,h1,h2,h3,h4,h5⟩,hb=>⟨D,Wb,lo,n1,F1,h1.more hb,h2,h3,h4,h5.below hb h5.lt⟩
 | [_,_,_,_],_,_,⟨D,Wb,lo,n1,F1,h1,h2,h3,h4,h5⟩,hb=>⟨D,Wb,lo,n1,F1,h1.more hb,h2,h3,h4,h5.below hb h5.lt⟩
 | [_,_,_,_,_],_,_,⟨n1,a,b,c,e,h1,h2,h3,h4⟩,hb=>⟨n1,a,b,c,e,h1,(h2.below hb).weak fun _ hg=>⟨hg.1,Nat.lt_of_lt_of_le hg.2 hb.size⟩,h3.trans (hb.mono h3.size),h4.below hb h4.lt⟩
theorem zeh (w : World) {S S2 S3 : Nat → Prop} {v : Value} {n : Nd} {a : Option Addr} {m c : Nat} {k : List UInt8} {a2' : Option Addr} {m2 c2' : Nat} {x : List Ver} (hr : RdN S w v n) (hf : fitN n) (hk : RdS S2 w (.slice a m c) k) (hkl : k.length ≤ 1000) (hx : RdL Elt.ver S3 w (.slice a2' m2 c2') x) (hsm : zbq x) :
  Calls Tryz.prog 66 #[v,.slice a m c,.slice a2' m2 c2'] w (zr2 w (zf7 n k x)) := by
 have hr0 := hr
 obtain ⟨a1,c1,a2,c2,a3,c3,rfl,_,_,_⟩ := hr
 obtain ⟨W,hW,q,bn,bz,hsz⟩ := zbx w 26 (.slice a1 n.keys.length c1) (.slice a2 n.chains.length c2) (.slice a3 n.kids.length c3) (.slice none 0 0) (.slice none 0 0) (.slice none 0 0)
 have hcp := zi3 (wN n) n W (Nat.le_refl _) hf.1 hf.2 (hr0.below q)
 have tn0 := bn.cell0
 have tn1 := bn.cell1
 have tn2 := bn.cell2
 obtain ⟨fs,hu,_⟩ := ndS.hu
 have hwn : wN n ≤ 1000000 := by have := hf.1; omega
 obtain ⟨rfl,_,_⟩ := hk.len
 clear hr0
 go_enter Tryz.func66,Tryz.ntmps66
 go_upto_region 1 with (fail)
 rw [← hW]
 clear hW
 go_wp2_with fail
 refine hcp.mono ?_
 rintro e W1 ⟨v',rfl,F,hat,hFF,hb1⟩
 obtain ⟨r1,d1,r2,d2,r3,d3,_,_,_,_,rfl,_⟩ := hat.opn
 have bz1 := bz.below hb1 bz.lt
 clear tn0 tn1 tn2 hcp bn bz
 go_upto_region 2 with (first
  | (refine zcn rfl rfl ?_; intro W2 hb2 ht2)
  | (refine zaf rfl rfl rfl rfl rfl rfl rfl rfl ht2 ?_; intro W3 hg3 bk)
  | fail)
 have s0 := (NdOf.start (lo := W1.heap.size + 1) hat hb2 (by omega) (by have := ht2.lt; omega)).box hg3 (Nat.le_refl _) (by omega)
 have bz3 := (bz1.below hb2 bz1.lt).other hg3 (by have := hb1.size; omega)
 have qb : Below W1.heap.size W1 W3 := hb2.grown hg3 hb2.size fun k e => by injection e with e; omega
 have hk3 := ((hk.below q).below hb1).below qb
 have hx3 := ((hx.below q).below hb1).below qb
 clear ht2 hg3 hb2 bz1
 have hch := zci W3 s0.at'.rdN hwn
 have tk0 := bk.cell0
 have tk1 := bk.cell1
 have tk2 := bk.cell2
 have fin1 : ∀ (W4 W5 : World),NdOf _ W1 _ F W4 (.agg #[.slice r1 n.keys.length d1,.slice r2 n.chains.length d2,.slice r3 n.kids.length d3]) n F → W4.grownBy W5 (Option.some (w.heap.size + 1)) → _ := fun W4 W5 s hg => s.done (D := fun g => W.heap.size ≤ g ∧ g < W1.heap.size ∧ g ∉ F) (lo := W1.heap.size + 1) q hb1 (fun g hd => hd.1) hFF hg (by omega) (by omega)
 by_cases hok : okN n
 ·obtain ⟨d,hpn⟩ := zqz hok
  rw [decide_eq_true hok] at hch
  go_wp2_with fail
  refine hch.mono ?_
  rintro e W4 ⟨rfl,hb4⟩
  have s4 := s0.more hb4
  have bk4 := bk.below hb4 bk.lt
  have bz4 := bz3.below hb4 bz3.lt
  have hk4 := hk3.below hb4
  have hx4 := hx3.below hb4
  have qb4 := qb.trans (hb4.mono qb.size)
  clear tk0 tk1 tk2 hch bk bz3 s0 hk3 hx3 qb
  have hft := zof W4 (a := a) (n := k.length) (c := c) hx4
  by_cases hfit : k.length ≤ 16 ∧ x ≠ [] ∧ okV x
  ·rw [decide_eq_true hfit] at hft
   replace hfit := Lib.hid hfit
   go_wp2_with fail
   refine hft.mono ?_
   rintro e W5 ⟨rfl,hb5⟩
   have s5 := s4.more hb5
   have bk5 := bk4.below hb5 bk4.lt
   have bz5 := bz4.below hb5 bz4.lt
   have hk5 := hk4.below hb5
   have hx5 := hx4.below hb5
   have qb5 := qb4.trans (hb5.mono qb4.size)
   clear bk4 bz4 s4 hk4 hx4 qb4 hft
   have hw5 : w.heap.size + 2 ≤ W5.heap.size := by have := bz5.lt; have := qb5.size; have := hb1.size; omega
   have eC : ∀ args w,(callFunc 57 args).run Tryz.prog w = .ok (.enter 57 args) w := enters_of Tryz.func57 (by kernel_rfl) rfl
   have eV : ∀ args w,(callFunc 55 args).run Tryz.prog w = .ok (.enter 55 args) w := enters_of Tryz.func55 (by kernel_rfl) rfl
   have eP : ∀ args w,(callFunc 83 args).run Tryz.prog w = .ok (.enter 83 args) w := enters_of Tryz.func83 (by kernel_rfl) rfl
   have eR : ∀ args w,(callFunc 82 args).run Tryz.prog w = .ok (.enter 82 args) w := enters_of Tryz.func82 (by kernel_rfl) rfl
   have hFl : ∀ g ∈ F,g < W5.heap.size := s5.at'.lt
   go_upto_region 4 with (fail)
   refine zao (K := fun _ _ => True) (by kernel_rfl) (by kernel_rfl) [2,4,5,6,7] (by kernel_rfl) [lEq (.agg #[.slice r1 n.keys.length d1,.slice r2 n.chains.length d2,.slice r3 n.kids.length d3]),lEq (.slice a k.length c),lAny,lEq (.slice a2' m2 c2'),lAny,lAny,lAny,lAny,lEq (.int .i64 0)] (PutJ w W W5 n F d k x) PutJ.more (show Below W5.heap.size W5 W5 from Below.refl _ _)
    ⟨?o0,?o1,?o2,?o3,?o4,?o5,?o6,?o7,?o8,trivial⟩ ?fin
   case o0 =>
    refine LnOp.side rfl (by kernel_rfl) (fun A va w' k' hF hT hk hJ hb hu hp hd => ?_)
    have e1 : A.eval (.tmp 8) = .pointer (some ⟨W1.heap.size,0,none⟩) := hF 8 rfl
    have hk2 : k' ≤ 2 := hb 2 5 rfl (by kernel_rfl)
    have hB : Below W5.heap.size W5 w' := by
     rcases k' with _ | _ | _ | k'
     ·exact hJ
     ·exact (show PutJ w W W5 n F d k x [va 2] w' from hJ).1
     ·exact (show PutJ w W W5 n F d k x [va 2,va 4] w' from hJ).1
     ·omega
    exact zc0 ndS rfl e1 (bk5.below hB bk5.lt).cell0 (bk5.below hB bk5.lt).cell1 (bk5.below hB bk5.lt).cell2 ⟨_,rfl,rfl,Below.refl _ _⟩
   case o1 =>
    refine LnOp.side rfl (by kernel_rfl) (fun A va w' k' hF hT hk hJ hb hu hp hd => ?_)
    have e1 : A.eval (.tmp 1) = .slice a k.length c := hF 1 rfl
    exact BigFrame.wp_move _ rfl ⟨_,rfl,e1,Below.refl _ _⟩
   case o2 =>
    refine LnOp.line 0 rfl rfl (fun A va w' hF hT hJ hu hd => ?_)
    have e1 : A.eval (.tmp 22) = .slice a k.length c := (hT 22 1 (by simp) rfl).trans (hd ⟨1,.data⟩ (by simp) rfl rfl)
    have hB : Below W5.heap.size W5 w' := hJ
    refine zak rfl eC (args := #[.slice a k.length c]) (by simp only [List.map_toArray,List.map_cons,List.map_nil,e1]) ((ze1 w' (hk5.below hB).rd (Nat.le_refl _) (by omega)).mono ?_)
    rintro e W6 ⟨ad',k2,c',rfl,hf'⟩
    exact ⟨_,rfl,_,rfl,⟨hB.trans (hf'.1.mono hB.size),ad',k2,c',rfl,hf'.2.rdS.weak fun g hg => ⟨by have := hB.size; omega,hg.2⟩⟩,trivial⟩
   case o3 =>
    refine LnOp.side rfl (by kernel_rfl) (fun A va w' k' hF hT hk hJ hb hu hp hd => ?_)
    have e1 : A.eval (.tmp 2) = .slice a2' m2 c2' := hF 2 rfl
    exact BigFrame.wp_move _ rfl ⟨_,rfl,e1,Below.refl _ _⟩
   case o4 =>
    refine LnOp.line 1 rfl rfl (fun A va w' hF hT hJ hu hd => ?_)
    have e1 : A.eval (.tmp 24) = .slice a2' m2 c2' := (hT 24 3 (by simp) rfl).trans (hd ⟨3,.data⟩ (by simp) rfl rfl)
    have hJ' : PutJ w W W5 n F d k x [va 2] w' := hJ
    obtain ⟨hB,a',m',c',ek,hkr⟩ := hJ'
    refine zak rfl eV (args := #[.slice a2' m2 c2']) (by simp only [List.map_toArray,List.map_cons,List.map_nil,e1]) ((zew w' (hx5.below hB) hsm).mono ?_)
    rintro e W6 ⟨a3',c3',rfl,hnew,hb6⟩
    exact ⟨_,rfl,_,rfl,⟨hB.trans (hb6.mono hB.size),⟨a',m',c',ek,(hkr.below hb6).weak fun g hg => ⟨hg.1,Nat.lt_of_lt_of_le hg.2 hb6.size⟩⟩,_,_,_,rfl,hnew.weak fun g hg => ⟨by have := hB.size; omega,hg.2⟩⟩,trivial⟩
   case o5 =>
    refine LnOp.line 2 rfl rfl (fun A va w' hF hT hJ hu hd => ?_)
    have e1 : A.eval (.tmp 21) = .agg #[.slice r1 n.keys.length d1,.slice r2 n.chains.length d2,.slice r3 n.kids.length d3] := (hT 21 0 (by simp) rfl).trans (hd ⟨0,.data⟩ (by simp) rfl rfl)
    have x2 : A.eval (.tmp 23) = va 2 := hT 23 2 (by simp) rfl
    have x3 : A.eval (.tmp 25) = va 4 := hT 25 4 (by simp) rfl
    have hJ' : PutJ w W W5 n F d k x [va 2,va 4] w' := hJ
    obtain ⟨hB,⟨a',m',c',ek,hkr⟩,a'',m'',c'',ev,hvr⟩ := hJ'
    have z1 := hB.size
    have z2 := hb1.size
    have z3 := qb5.size
    obtain ⟨⟨vs,e0,ho⟩,hnd,_,_⟩ := s5.at'.below hB
    have hat' : NdAt (fun g => W.heap.size ≤ g ∧ g < w'.heap.size ∧ g ∉ F) w' (.agg #[.slice r1 n.keys.length d1,.slice r2 n.chains.length d2,.slice r3 n.kids.length d3]) n F := ⟨⟨vs,e0,zf0 (fun g hg => ⟨hg.1,by omega,hg.2.2⟩) n ho⟩,hnd,fun g hg hd => hd.2.2 hg,fun g hd => hd.2.1⟩
    refine zak rfl eP (args := #[.agg #[.slice r1 n.keys.length d1,.slice r2 n.chains.length d2,.slice r3 n.kids.length d3],.slice a' m' c',.slice a'' m'' c'']) (by simp only [List.map_toArray,List.map_cons,List.map_nil,e1,x2.trans ek,x3.trans ev]) ((zqp d w' _ _ n F _ _ _ _ _ _ k x hat' hpn (hkr.weak fun g hg => ⟨by omega,hg.2,fun hm => by have := hFl g hm; omega⟩) (hvr.weak fun g hg => ⟨by omega,hg.2,fun hm => by have := hFl g hm; omega⟩)).mono ?_)
    rintro e W6 hto
    obtain ⟨v6,n6,F6,rfl,hq6,s6,t6⟩ := (NdOf.start hat' (Below.refl _ _) (Nat.le_refl _) (Nat.le_refl _)).step hto
    exact ⟨_,rfl,_,rfl,⟨_,w',_,n6,F6,s6,hB,fun g hd => hd.1,hq6,(t6.block _ (bz5.below hB bz5.lt).lt (fun hm => by have := hFF _ hm; omega)).trans (bz5.below hB bz5.lt)⟩,trivial⟩
   case o6 =>
    refine LnOp.line 3 rfl rfl (fun A va w' hF hT hJ hu hd => ?_)
    have x1 : A.eval (.tmp 26) = va 5 := hT 26 5 (by simp) rfl
    have hJ' : PutJ w W W5 n F d k x [va 2,va 4,va 5] w' := hJ
    obtain ⟨D,Wb,lo,n1,F1,s,hBb,hD,hput,bzb⟩ := hJ'
    refine zak rfl eR (args := #[va 5]) (by simp only [List.map_toArray,List.map_cons,List.map_nil,x1]) ((zis w' s.at' (hput.1.mono (Nat.zero_le _) hput.1.keys.2)).mono ?_)
    rintro e W6 hto
    obtain ⟨v6,n6,F6,rfl,hq6,s6,t6⟩ := s.step hto
    rw [hq6] at s6
    exact ⟨_,rfl,_,rfl,⟨D,Wb,lo,n1,F6,s6,hBb,hD,hput,(t6.block _ bzb.lt (fun hm => by rcases s.fr _ hm with h1 | h1; have := hFF _ h1; omega; have := s.lo1; have := hBb.size; omega)).trans bzb⟩,trivial⟩
   case o7 =>
    refine LnOp.line 4 rfl rfl (fun A va w' hF hT hJ hu hd => ?_)
    have e1 : A.eval (.tmp 6) = .pointer (some ⟨w.heap.size + 1,0,none⟩) := hF 6 rfl
    have x2 : A.eval (.tmp 27) = va 6 := hT 27 6 (by simp) rfl
    have hJ' : PutJ w W W5 n F d k x [va 2,va 4,va 5,va 6] w' := hJ
    obtain ⟨D,Wb,lo,n1,F1,s,hBb,hD,hput,bzb⟩ := hJ'
    obtain ⟨y1,f1,y2,f2,y3,f3,_,_,_,_,ev,_⟩ := s.at'.opn
    refine zb2 rfl e1 (x2.trans ev) rfl rfl rfl bzb (fun w2 hg ht => ?_)
    obtain ⟨hrd,hbl⟩ := s.done q (hb1.trans ((qb5.trans (hBb.mono qb5.size)).mono hb1.size)) hD hFF hg (by omega) (by omega)
    rw [ev] at hrd
    exact ⟨_,rfl,⟨n1,_,_,_,ev,hput,hrd,hbl,ht⟩,trivial⟩
   case o8 =>
    refine LnOp.side rfl (by kernel_rfl) (fun A va w' k' hF hT hk hJ hb hu hp hd => ?_)
    exact BigFrame.wp_assign _ rfl ⟨_,rfl,rfl,Below.refl _ _⟩
   case fin =>
    intro vs1 W9 hJ hGG
    have e8 : vs1 8 = .int .i64 0 := hGG 8 (by decide) rfl
    clear hGG
    obtain ⟨n1,y1,y2,y3,_,hput,hrd,hbl,bz9⟩ := hJ
    simp only [zae,e8]
    go_simp
    go_wp2_with fail
    have hs1 : Srt (zaa n1) := by rw [hput.2]; exact zjw hpn.srt
    obtain ⟨⟨d',hp'⟩,hpr⟩ := zk5 (hput.1.mono (Nat.zero_le _) hput.1.keys.2) hs1
    have hq : zf7 n k x (zgg n1) 0 := by
     unfold zf7
     rw [if_pos ⟨hok,hfit.out.1,hfit.out.2.2,hfit.out.2.1⟩]
     exact ⟨rfl,pn_ok hp' (by rw [hpr,hput.2]; exact ((zco _).1 (put_okP hok.2 hfit.out.1 hfit.out.2.2 hfit.out.2.1)).1),by rw [hpr,hput.2]⟩
    exact bodyPost_ret (v := .tuple #[.agg #[y1,y2,y3],.int .i64 0]) (by simp [results,Tryz.results66,go_sem,loadVar,isAgg,run_underlying hu,zab ndS.hs,loadCellsFrom,Addr.add,bz9.cell0,bz9.cell1,bz9.cell2]) rfl ⟨_,zgg n1,0,rfl,hq,hrd,hbl⟩
  ·rw [decide_eq_false hfit] at hft
   go_wp2_with fail
   refine hft.mono ?_
   rintro e W5 ⟨rfl,hb5⟩
   have s5 := s4.more hb5
   have bk5 := bk4.below hb5 bk4.lt
   have bz5 := bz4.below hb5 bz4.lt
   clear bk4 bz4 s4 hft
   have tk0 := bk5.cell0
   have tk1 := bk5.cell1
   have tk2 := bk5.cell2
   go_wp2_with (first | (refine zaf rfl rfl rfl rfl rfl rfl rfl rfl bz5 ?_; intro W6 hg6 bz6) | fail)
   obtain ⟨hrd,hbl⟩ := fin1 _ _ s5 hg6
   exact bodyPost_ret (v := .tuple #[.agg #[.slice r1 n.keys.length d1,.slice r2 n.chains.length d2,.slice r3 n.kids.length d3],.int .i64 1]) (by simp [results,Tryz.results66,go_sem,loadVar,isAgg,run_underlying hu,zab ndS.hs,loadCellsFrom,Addr.add,bz6.cell0,bz6.cell1,bz6.cell2]) rfl ⟨_,n,1,rfl,by unfold zf7; rw [if_neg (fun h => hfit ⟨h.2.1,h.2.2.2,h.2.2.1⟩)]; exact ⟨rfl,rfl⟩,hrd,hbl⟩
 ·rw [decide_eq_false hok] at hch
  go_wp2_with fail
  refine hch.mono ?_
  rintro e W4 ⟨rfl,hb4⟩
  have s4 := s0.more hb4
  have bk4 := bk.below hb4 bk.lt
  have bz4 := bz3.below hb4 bz3.lt
  clear tk0 tk1 tk2 hch bk bz3 s0
  have tk0 := bk4.cell0
  have tk1 := bk4.cell1
  have tk2 := bk4.cell2
  go_wp2_with (first | (refine zaf rfl rfl rfl rfl rfl rfl rfl rfl bz4 ?_; intro W5 hg5 bz5) | fail)
  obtain ⟨hrd,hbl⟩ := fin1 _ _ s4 hg5
  exact bodyPost_ret (v := .tuple #[.agg #[.slice r1 n.keys.length d1,.slice r2 n.chains.length d2,.slice r3 n.kids.length d3],.int .i64 1]) (by simp [results,Tryz.results66,go_sem,loadVar,isAgg,run_underlying hu,zab ndS.hs,loadCellsFrom,Addr.add,bz5.cell0,bz5.cell1,bz5.cell2]) rfl ⟨_,n,1,rfl,by unfold zf7; rw [if_neg (fun h => hok h.1)]; exact ⟨rfl,rfl⟩,hrd,hbl⟩
theorem zbr {P:Program} {f:FuncId} {fn:Func} {c:Code} {args:Array Value} {w:World} {R:Ending→World→Prop} (hf:P.funcs[f]?=some fn) (hb:fn.body=some c)
  (h:c.wp P (bodyPostM Fence.wide 3 P fn R) { tmps:=args++Array.replicate (fn.ntmps - args.size) undef,defers:=[] } w):Calls P f args w R :=
 (callsIn_wide (n:=3)).1 (callsIn_of_wp_marks hf hb trivial (wpIn_wide.2 h) rfl)
theorem zgp {P:Program} {α:Type} {g:Operand} {ps:Array Tmp} {assign body:Code} {Q:Exit→Act→World→Prop} {a:Act} {w:World}
  {gf:Nat} {lb:Array Value} (hg:a.eval g=.func (.func gf) #[] lb) (eg:∀ args w,(callFunc gf args).run P w=.ok (.enter gf args) w)
  {encs:α→Array Value} {Kp:World→World→Prop} {S Sp:List α→Prop} {N:Nat} {w0:World} (hseq:SeqStopsK Fence.wide 2 P gf lb encs Kp S Sp N w0)
  (hKt:∀ {A B C:World},Kp A B→Kp B C→Kp A C) (hKb:∀ (W:World) (l:Nat) (o o':Obj),w.heap.size≤l→W.heap[l]?=some o→o.isCells=false→o.isWalk=false→Kp W (W.putObj l o')) (hb0:Below w0.heap.size w0 w) (hps:∀ x,(encs x).size=ps.size)
  (I:List α→World→Prop) (Ix:Code→List α→World→Prop) (hI:OwnFrom w.heap.size I) (hIx:∀ c,OwnFrom w.heap.size (Ix c)) (h0:I [] w) (a₁:α→Act)
  (hassign:∀ (l:Nat) (x:α) (W:World) (K:Act→World→Prop),K (a₁ x) W →
   assign.wpIn (Fence.wide.inRound l) 1 P (Exit.then K (fun _ _ _=>False)) { tmps:=(ps.zip (encs x)).foldl (fun t (p,v)=>t.setIfInBounds p v) a.tmps,defers:=[] } W)
  (hbody:∀ (l:Nat) (pre:List α) (x:α) (W:World),I pre W→pre.length<N→body.wpIn (Fence.wide.inRound l) 1 P (ownPostG w.heap.size Kp I Ix (pre++[x]) W) (a₁ x) W)
  (hdone:∀ (D:Nat) (xs:List α) (W:World),w.heap.size≤D→S xs→I xs W→W.heap[D]?=some (.deferred (some []))→Q .normal { a with defers:={ target:=.collected D,args:=#[] }::a.defers } W)
  (hstop:∀ (D:Nat) (c:Code) (pre:List α) (W:World),w.heap.size≤D→Sp pre→Ix c pre W→W.heap[D]?=some (.deferred (some []))→c.wp P Q { a with defers:={ target:=.collected D,args:=#[] }::a.defers } W) :
  (Code.rangeFunc g ps assign body).wp P Q a w :=
 (wpIn_wide (n:=3)).1 (wpIn_rangeFunc_ownG rfl (by omega) hg trivial eg hseq hKt hKb hb0 hps I Ix hI hIx h0 a₁ hassign hbody hdone fun D c pre W h1 h2 h3 h4=>wpIn_wide.2 (hstop D c pre W h1 h2 h3 h4))
def geK (l:List Pr) (k:List UInt8):List (List UInt8):=(l.filter fun p=>!ltB p.key k).map (·.key)
theorem zh6 (a b:List Pr) (k:List UInt8):geK (a++b) k=geK a k++geK b k:=by simp [geK]
theorem geK_cons (p:Pr) (l:List Pr) (k:List UInt8):geK (p::l) k=if ltB p.key k then geK l k else p.key::geK l k:=by
 unfold geK
 rw [List.filter_cons]
 cases ltB p.key k<;>simp
theorem zj7 {l:List Pr} {k:List UInt8}(h:∀ p∈l,ltB p.key k=true):geK l k=[]:=by
 unfold geK
 rw [List.filter_eq_nil_iff.2 fun p hp=>by simp [h p hp]]
 rfl
theorem zrh (l:List Pr):geK l []=l.map (·.key):=by
 unfold geK
 rw [List.filter_eq_self.2 fun p _=>by rw [zq3];rfl]
theorem zrg(l:List Pr)(k:List UInt8):(geK l k).length≤l.length:=by
 unfold geK
 rw [List.length_map]
 exact List.length_filter_le _ _
def remN (n:Nd) (i:Nat):List Pr:=zbn ((psN n).drop i) ((kpN n).drop i)
def sufN (n:Nd) (i:Nat):List Pr:=suf ((kpN n).drop i) ((psN n).drop (i+1))
theorem ps_get {n:Nd} {i:Nat} (hi:i<n.kids.length):(psN n).drop i=zaa n.kids[i]::(psN n).drop (i+1):=by
 have hl:i<(psN n).length:=by unfold psN;rw [List.length_map];exact hi
 rw [List.drop_eq_getElem_cons hl]
 congr 1
 exact List.getElem_map (l:=n.kids) zaa
theorem zjo {n:Nd} {i:Nat}(hi:i<n.kids.length):remN n i=zaa n.kids[i]++sufN n i:=by
 unfold remN sufN
 rw [ps_get hi,zca]
theorem zqq {n:Nd}(h0:n.kids=[]):psN n=[]:=by unfold psN;rw [h0];rfl
theorem zp8 {n:Nd} (hc:n.chains.length=n.keys.length) {i:Nat} (hi:n.keys.length≤i):sufN n i=[]:=by
 unfold sufN
 rw [List.drop_of_length_le (by rw [zbd hc];exact hi)]
 rfl
theorem suf_key {n:Nd} (hc:n.chains.length=n.keys.length) {i:Nat} (hi:i<n.keys.length):sufN n i=⟨n.keys[i],n.chains[i]'(by omega)⟩::remN n (i+1):=by
 unfold sufN remN
 have h2:i<(kpN n).length:=by rw [zbd hc];exact hi
 have h3:=zdp hc hi
 rw [List.getElem?_eq_getElem h2] at h3
 rw [List.drop_eq_getElem_cons h2,Option.some.inj h3]
 rfl
theorem rem_leaf {n:Nd}(h0:n.kids=[])(i:Nat):remN n i=sufN n i:=by
 unfold remN sufN
 rw [zqq h0]
 simp only [List.drop_nil,zbn]
 cases h:(kpN n).drop i with
 | nil=>rfl
 | cons p r=>rfl
theorem zqk {d:Nat} {n:Nd} (h:Pn d n) (k:List UInt8):geK (zaa n) k=geK (remN n (plcF n.keys k)) k:=by
 obtain⟨hc,hsh⟩:=h.wf.shape
 obtain⟨i,hi⟩:∃ i,i=plcF n.keys k:=⟨_,rfl⟩
 rw [← hi]
 rcases hsh with h0 | h0
 ·obtain⟨m1,_⟩:=zj6 (k:=k) hc h.ris
  rw [← hi] at m1
  have e:zaa n=(kpN n).take i++(kpN n).drop i:=by
   rw [zaq hc (.inl h0),zqq h0,List.take_append_drop]
   rfl
  have e2:remN n i=(kpN n).drop i:=by
   unfold remN
   rw [zqq h0,List.drop_nil]
   rfl
  rw [e,e2,zh6,zj7 m1]
  rfl
 ·obtain⟨m1,_⟩:=zfv (k:=k) hc h0 h.srt h.ris hi
  have hle:i≤n.keys.length:=hi▸zfu _ _
  have hlt:i<n.kids.length:=by omega
  rw [zjo hlt,zbz hc h0 hlt,List.append_assoc,zh6,zj7 m1]
  rfl
theorem plc_ge {n:Nd} {d i:Nat} {k:List UInt8} (h:Pn d n) (hi:plcF n.keys k≤i) (hl:i<n.keys.length):ltB n.keys[i] k=false:=by
 rw [zgw h.ris i hl]
 exact decide_eq_false (by omega)
theorem zrf {n:Nd} {d i:Nat} {k:List UInt8} (h:Pn d n) (hi:plcF n.keys k≤i) (hl:i<n.keys.length):geK (sufN n i) k=n.keys[i]::geK (remN n (i+1)) k:=by
 rw [suf_key h.wf.shape.1 hl,geK_cons,plc_ge h hi hl]
 rfl
attribute [local go_sem] Oper.semAt_some
structure zee (w0:World) where
 ad:Option Addr
 c:Nat
 t:List UInt8
 le:t.length≤1000000
 rd:RdS (·<w0.heap.size) w0 (.slice ad t.length c) t
def zee.enc {w0:World}(x:zee w0):Array Value:=#[.slice x.ad x.t.length x.c]
def KpW (n₀:Nat) (A B:World):Prop:=Below n₀ A B∧∀ (j:Nat) (c:Array Value) (r:Nat×Nat),A.heap[j]?=some (.cells c 26 r)→B.heap[j]?=A.heap[j]?
theorem KpW.trans {n₀:Nat} {A B C:World} (h:KpW n₀ A B) (k:KpW n₀ B C):KpW n₀ A C:=⟨h.1.trans k.1,fun j c r e=>(k.2 j c r ((h.2 j c r e).trans e)).trans (h.2 j c r e)⟩
theorem KpW.refl(n₀:Nat)(A:World):KpW n₀ A A:=⟨Below.refl _ _,fun _ _ _ _=>rfl⟩
theorem KpW.of {n₀:Nat} {A B:World} (h:Below A.heap.size A B) (hn:n₀≤A.heap.size):KpW n₀ A B:=⟨h.mono hn,fun j _ _ e=>h.block j (Array.getElem?_eq_some_iff.1 e).1⟩
theorem KpW.tri {n₀ b:Nat} {A B:World} {x y z:Value}(h:KpW n₀ A B)(t:TriV A b 26 x y z):TriV B b 26 x y z:=(h.2 b _ _ t).trans t
theorem znx {w0 w:World} {v:Value} {xs:List UInt8} (h:RdS (·<w0.heap.size) w0 v xs) (hb:Below w0.heap.size w0 w):RdS (·<w0.heap.size) w v xs:=h.keep fun k hk=>hb.block k hk
theorem zny {w0 w:World} {v:Value} {n:Nd} (h:RdN (·<w0.heap.size) w0 v n) (hb:Below w0.heap.size w0 w):RdN (·<w0.heap.size) w v n:=h.keep fun k hk=>hb.block k hk
theorem za1 {W W':World}(h:Below W.heap.size W W'):W.grownBy W' none:=⟨h.os,h.tape,h.output,h.size,fun k hk _=>h.block k hk⟩
theorem zo9(k:Nat):Fence.wide.room k:=fun d h=>by cases h
theorem zpp {m:Nat} (m':Nat) {P:Program} {l:Nat} {args:Array Value} {W:World} {R:Ending→World→Prop} (h:YieldAt Fence.wide m P l args W R):YieldAt Fence.wide m' P l args W R:=by
 obtain⟨fn,tmps,assign,body,hy,hR⟩:=h
 exact⟨fn,tmps,assign,body,hy,hR.1,fun c cs _=>hR.2 c cs (zo9 _)⟩
def PreK {w0:World} (ks:List (List UInt8)) (ys:List (zee w0)):Prop:=∃ r,ks=ys.map (·.t)++r
def WalkEnd {w0:World} (J Jx:List (zee w0)→World→Prop) (pre:List (zee w0)) (ks:List (List UInt8)) (W:World) (e:Ending) (W':World):Prop :=
 (e=.returned (.bool true)∧(∃ ys,ys.map (·.t)=ks∧J (pre++ys) W')∧KpW w0.heap.size W W')∨(e=.returned (.bool false)∧∃ ys,PreK ks ys∧Jx (pre++ys) W')
def WalkR {w0:World} (J:List (zee w0)→World→Prop) (pre:List (zee w0)) (n:Nd) (k:List UInt8) (W:World) (v:Value) (wr:World):Prop :=
 ∃ (i:Nat) (ys:List (zee w0)),v=.int .i64 (i:Int)∧plcF n.keys k≤i∧i≤n.keys.length+1∧geK (zaa n) k=ys.map (·.t)++geK (remN n i) k∧J (pre++ys) wr∧KpW w0.heap.size W wr
def toN:Value→Nat
 | .int _ i=>i.toNat
 | _=>0
def zr1 (l:Nat) {w0:World} (J Jx:List (zee w0)→World→Prop) (k:List UInt8) (N d:Nat):Prop :=
 ∀ (n:Nd) (m:Nat) (v:Value) (a:Option Addr) (c:Nat) (pre:List (zee w0)) (W:World),Pn d n→bndN n→RdN (·<w0.heap.size) w0 v n→KpW w0.heap.size w0 W→RdS (·<w0.heap.size) w0 (.slice a k.length c) k→J pre W→pre.length+(geK (zaa n) k).length≤N →
  CallsIn Fence.wide m Tryz.prog 79 #[v,.slice a k.length c,.func (.yield l) #[] #[]] W (WalkEnd J Jx pre (geK (zaa n) k) W)
theorem zjp {d:Nat} {n:Nd} (h:Pn d n):remN n (n.keys.length+1)=[]:=by
 obtain⟨hc,hsh⟩:=h.wf.shape
 have e:(kpN n).drop (n.keys.length+1)=[]:=List.drop_of_length_le (by rw [zbd hc];omega)
 unfold remN
 rw [e]
 cases hps:(psN n).drop (n.keys.length+1) with
 | nil=>rfl
 | cons p r =>
  have:=congrArg List.length hps
  unfold psN at this
  rw [List.length_drop,List.length_map,List.length_cons] at this
  rcases hsh with h1 | h1
  ·rw [h1] at this;simp at this
  ·omega
theorem zpz (l : Nat) {w0 : World} {J Jx : List (zee w0) → World → Prop} {k : List UInt8} {N d B : Nat} (hAb : AbidesFrom B J)
    (hY : ∀ m pre x W, J pre W → pre.length < N → YieldAt Fence.wide m Tryz.prog l x.enc W fun e W' => (e = .returned (.bool true) ∧ J (pre ++ [x]) W' ∧ KpW w0.heap.size W W') ∨ (e = .returned (.bool false) ∧ Jx (pre ++ [x]) W'))
    (ih : ∀ d', d' < d → zr1 l J Jx k N d') : zr1 l J Jx k N d := by
  intro n m v a c pre W hp hbd hr hW hk hJ hN
  obtain ⟨hbk, _, hbm⟩ := (zfb n).1 hbd
  have hr0 := hr
  obtain ⟨a1, c1, a2, c2, a3, c3, rfl, rk, rc, rn⟩ := hr
  have hkk := hp.wf.keys.2
  obtain ⟨hsh1, hsh2⟩ := hp.wf.shape
  have bn := TriV.new W 26 (.slice a1 n.keys.length c1) (.slice a2 n.chains.length c2) (.slice a3 n.kids.length c3)
  have hb0 : Below W.heap.size W (W.alloc (.cells #[.slice a1 n.keys.length c1, .slice a2 n.chains.length c2, .slice a3 n.kids.length c3] 26)) := (Below.refl _ _).alloc (Nat.le_refl _) _
  obtain ⟨W1, hW1⟩ : ∃ W1, W1 = W.alloc (.cells #[.slice a1 n.keys.length c1, .slice a2 n.chains.length c2, .slice a3 n.kids.length c3] 26) := ⟨_, rfl⟩
  rw [← hW1] at bn hb0
  have k1 : KpW w0.heap.size W W1 := KpW.of hb0 hW.1.size
  have hpl := zfw W1 (zny hr0 (hW.trans k1).1) hp.ris (by omega) (znx hk (hW.trans k1).1)
  obtain ⟨i0, hi0⟩ : ∃ i, i = plcF n.keys k := ⟨_, rfl⟩
  obtain ⟨is, his⟩ : ∃ is, is = isF n.keys k := ⟨_, rfl⟩
  rw [← hi0, ← his] at hpl
  have hrp := Lib.hid (zqk hp k)
  have hi0' := Lib.hid hi0
  have hil : i0 ≤ n.keys.length := by rw [hi0]; exact zfu _ _
  replace hsh1 := Lib.hid hsh1
  replace hsh2 := Lib.hid hsh2
  replace his := Lib.hid his
  clear hi0
  refine callsIn_of_wp Tryz.func79 rfl trivial ?_ rfl
  simp only [Tryz.ntmps79, List.size_toArray, List.length_cons, List.length_nil, Nat.reduceAdd, Nat.reduceSub, Array.replicate_succ, Array.replicate_zero, List.push_toArray, List.append_toArray, List.nil_append, List.cons_append]
  refine wpIn_wide.2 ?_
  go_upto_region 1 with (fail)
  rw [← hW1]
  clear hW1
  have tn0 := bn.cell0
  have tn1 := bn.cell1
  have tn2 := bn.cell2
  go_wp2_with fail
  refine hpl.mono ?_
  rintro e W2 ⟨rfl, hb2⟩
  clear tn0 tn1 tn2
  have bn2 := bn.below hb2 bn.lt
  have k2 : KpW w0.heap.size W W2 := k1.trans (KpW.of hb2 (by have := hW.1.size; have := k1.1.size; omega))
  have hsz2 : W.heap.size ≤ W2.heap.size := Nat.le_trans hb0.size hb2.size
  have hJ2 : J pre W2 := hAb _ _ _ none (hAb _ _ _ none hJ (za1 hb0) (by simp)) (za1 hb2) (by simp)
  have r0 : WalkR J pre n k W2 (.int .i64 (i0 : Int)) W2 := ⟨i0, [], rfl, by rw [hi0'.out]; exact Nat.le_refl _, by omega, by rw [hrp.out, hi0'.out]; rfl, by rw [List.append_nil]; exact hJ2, KpW.refl _ _⟩
  have hW2 := hW.trans k2
  clear bn hb0 hpl k1 hb2 hJ2 hsz2
  go_wp2_with fail
  refine (wpIn_wide (n := m)).1 ?_
  gi_loopw [7] (fun v wr => WalkR J pre n k W2 v wr) (fun v _ => n.keys.length + 2 - toN v)
  case atStart => exact r0
  case round =>
    obtain ⟨i, ys, rfl, hi1, hi2, hge, hJr, hKr⟩ := hrel
    clear r0
    have bnr := hKr.tri bn2
    have hW3 := hW2.trans hKr
    have tn0 := bnr.cell0
    have tn1 := bnr.cell1
    have tn2 := bnr.cell2
    refine wpIn_wide.2 ?_
    rcases Nat.lt_or_ge n.keys.length i with hl | hl
    · have d1 : decide ((i : Int) ≤ (n.keys.length : Int)) = false := by simp; omega
      obtain rfl : i = n.keys.length + 1 := by omega
      go_wp2_with fail
      go_ret
      refine .inl ⟨rfl, ⟨ys, ?_, hJr⟩, k2.trans hKr⟩
      rw [hge, zjp hp, zj7 (fun p h => by cases h), List.append_nil]
    · have d1 : decide ((i : Int) ≤ (n.keys.length : Int)) = true := by simp; omega
      have hJb : ∀ W' : World, Below wr.heap.size wr W' → J (pre ++ ys) W' := fun W' hb => hAb _ _ _ none hJr (za1 hb) (by simp)
      rcases Nat.lt_or_ge i n.kids.length with hkd | hkd
      · have d2 : decide ((i : Int) < (n.kids.length : Int)) = true := by simp; omega
        obtain ⟨d', ed, hd', hkl, hpk, _, _⟩ := hp.kid hkd
        have ihk := ih d' (by omega) n.kids[i] (m - 1)
        obtain ⟨gb, off, xa, xc, ya, yc, za, zc, rfl, c0, c1', c2', hrk⟩ := rn.kid i hkd
        have ihk := (callsIn_wide (n := m)).1 (ih d' (by omega) n.kids[i] m _ a c (pre ++ ys) wr hpk (hbm _ (List.getElem_mem hkd)) hrk hW3 hk hJr (by
          have h1 := congrArg List.length hge
          rw [zjo hkd, zh6] at h1
          simp only [List.length_append, List.length_map] at h1 ⊢
          omega))
        replace c0 := (zac (hW3.1.block gb (zaj c0)) _).trans c0
        replace c1' := (zac (hW3.1.block gb (zaj c1')) _).trans c1'
        replace c2' := (zac (hW3.1.block gb (zaj c2')) _).trans c2'
        replace ed := Lib.hid ed
        replace hkl := Lib.hid hkl
        replace hge := Lib.hid hge
        go_wp2_with fail
        refine ihk.mono ?_
        rintro e W4 (⟨rfl, ⟨zs, hz, hJ4⟩, hK4⟩ | ⟨rfl, zs, ⟨rz, hz⟩, hx⟩)
        · have hJ4' : J (pre ++ (ys ++ zs)) W4 := by rw [← List.append_assoc]; exact hJ4
          have hge4 := Lib.hid (show geK (zaa n) k = (ys ++ zs).map (·.t) ++ geK (sufN n i) k by rw [hge.out, zjo hkd, zh6, List.map_append, hz, List.append_assoc])
          replace hz := Lib.hid hz
          have bn4 := (hKr.trans hK4).tri bn2
          have hW4 := hW2.trans (hKr.trans hK4)
          clear tn0 tn1 tn2 hJ4 ihk
          have tn0 := bn4.cell0
          have tn1 := bn4.cell1
          have tn2 := bn4.cell2
          rcases Nat.lt_or_ge i n.keys.length with hky | hky
          · have d3 : decide ((i : Int) < (n.keys.length : Int)) = true := by simp; omega
            obtain ⟨b1, o1, A, C, rfl, kc, krd⟩ := rk.byt i hky
            replace kc := (zac (hW4.1.block b1 (zaj kc)) _).trans kc
            have hsk := Lib.hid (zrf (k := k) hp hi1 hky)
            obtain ⟨x, hx⟩ : ∃ x : zee w0, x = ⟨A, C, n.keys[i], by have := hbk _ (List.getElem_mem hky); omega, krd⟩ := ⟨_, rfl⟩
            have hxt : x.t = n.keys[i] := by rw [hx]
            have hyl : YieldAt Fence.wide (m - 1) Tryz.prog l #[.slice A n.keys[i].length C] W4 fun e W' => (e = .returned (.bool true) ∧ J (pre ++ (ys ++ zs) ++ [x]) W' ∧ KpW w0.heap.size W4 W') ∨ (e = .returned (.bool false) ∧ Jx (pre ++ (ys ++ zs) ++ [x]) W') := by
              have h1 := hY (m - 1) (pre ++ (ys ++ zs)) x W4 hJ4' (by
                have h1 := congrArg List.length hge4.out
                rw [hsk.out] at h1
                simp only [List.length_append, List.length_map, List.length_cons] at h1 ⊢
                omega)
              rw [hx] at h1 ⊢
              exact h1
            replace hxt := Lib.hid hxt
            clear hx
            obtain ⟨fn, tmps, assign, body, hy, hR⟩ := hyl
            go_upto_region 6 with (fail)
            refine (wpIn_wide (n := m)).1 ?_
            gi_wp2
            refine ⟨(fun h => by cases h), hR.mono ?_⟩
            clear hR
            rintro e W5 (⟨rfl, hJ5, hK5⟩ | ⟨rfl, hx5⟩)
            · gi_wp2
              go_wp2_with fail
              go_roundw
              case rel =>
                refine ⟨i + 1, (ys ++ zs) ++ [x], by go_num, by omega, by omega, ?_, by rw [← List.append_assoc]; exact hJ5, (hKr.trans hK4).trans hK5⟩
                rw [hge4.out, hsk.out]
                simp [hxt.out]
              case measure => simp [toN]; omega
            · gi_wp2
              go_wp2_with fail
              go_ret
              exact .inr ⟨rfl, (ys ++ zs) ++ [x], ⟨geK (remN n (i + 1)) k, by rw [hge4.out, hsk.out]; simp [hxt.out]⟩, by rw [← List.append_assoc]; exact hx5⟩
          · have d3 : decide ((i : Int) < (n.keys.length : Int)) = false := by simp; omega
            have hse := Lib.hid (zp8 hsh1.out hky)
            go_wp2_with fail
            go_roundw
            case rel =>
              obtain rfl : i = n.keys.length := by omega
              exact ⟨n.keys.length + 1, ys ++ zs, by go_num, by omega, by omega, by rw [hge4.out, hse.out, zjp hp], hJ4', hKr.trans hK4⟩
            case measure => simp [toN]; omega
        · replace hz := Lib.hid hz
          go_wp2_with fail
          go_ret
          exact .inr ⟨rfl, ys ++ zs, ⟨rz ++ geK (sufN n i) k, by rw [hge.out, zjo hkd, zh6, hz.out]; simp⟩, by rw [← List.append_assoc]; exact hx⟩
      · have d2 : decide ((i : Int) < (n.kids.length : Int)) = false := by simp; omega
        have h0 : n.kids = [] := by rcases hsh2.out with h | h; exact h; omega
        have hge4 := Lib.hid (show geK (zaa n) k = ys.map (·.t) ++ geK (sufN n i) k by rw [hge, rem_leaf h0])
        replace h0 := Lib.hid h0
        replace hge := Lib.hid hge
        have bn4 := (hKr).tri bn2
        have hW4 := hW2.trans (hKr)
        clear tn0 tn1 tn2
        have tn0 := bn4.cell0
        have tn1 := bn4.cell1
        have tn2 := bn4.cell2
        rcases Nat.lt_or_ge i n.keys.length with hky | hky
        · have d3 : decide ((i : Int) < (n.keys.length : Int)) = true := by simp; omega
          obtain ⟨b1, o1, A, C, rfl, kc, krd⟩ := rk.byt i hky
          replace kc := (zac (hW4.1.block b1 (zaj kc)) _).trans kc
          have hsk := Lib.hid (zrf (k := k) hp hi1 hky)
          obtain ⟨x, hx⟩ : ∃ x : zee w0, x = ⟨A, C, n.keys[i], by have := hbk _ (List.getElem_mem hky); omega, krd⟩ := ⟨_, rfl⟩
          have hxt : x.t = n.keys[i] := by rw [hx]
          have hyl : YieldAt Fence.wide (m - 1) Tryz.prog l #[.slice A n.keys[i].length C] wr fun e W' => (e = .returned (.bool true) ∧ J (pre ++ (ys) ++ [x]) W' ∧ KpW w0.heap.size wr W') ∨ (e = .returned (.bool false) ∧ Jx (pre ++ (ys) ++ [x]) W') := by
            have h1 := hY (m - 1) (pre ++ (ys)) x wr hJr (by
              have h1 := congrArg List.length hge4.out
              rw [hsk.out] at h1
              simp only [List.length_append, List.length_map, List.length_cons] at h1 ⊢
              omega)
            rw [hx] at h1 ⊢
            exact h1
          replace hxt := Lib.hid hxt
          clear hx
          obtain ⟨fn, tmps, assign, body, hy, hR⟩ := hyl
          go_upto_region 6 with (fail)
          refine (wpIn_wide (n := m)).1 ?_
          gi_wp2
          refine ⟨(fun h => by cases h), hR.mono ?_⟩
          clear hR
          rintro e W5 (⟨rfl, hJ5, hK5⟩ | ⟨rfl, hx5⟩)
          · gi_wp2
            go_wp2_with fail
            go_roundw
            case rel =>
              refine ⟨i + 1, (ys) ++ [x], by go_num, by omega, by omega, ?_, by rw [← List.append_assoc]; exact hJ5, (hKr).trans hK5⟩
              rw [hge4.out, hsk.out]
              simp [hxt.out]
            case measure => simp [toN]; omega
          · gi_wp2
            go_wp2_with fail
            go_ret
            exact .inr ⟨rfl, ys ++ [x], ⟨geK (remN n (i + 1)) k, by rw [hge4.out, hsk.out]; simp [hxt.out]⟩, by rw [← List.append_assoc]; exact hx5⟩
        · have d3 : decide ((i : Int) < (n.keys.length : Int)) = false := by simp; omega
          have hse := Lib.hid (zp8 hsh1.out hky)
          go_wp2_with fail
          go_roundw
          case rel =>
            obtain rfl : i = n.keys.length := by omega
            exact ⟨n.keys.length + 1, ys, by go_num, by omega, by omega, by rw [hge4.out, hse.out, zjp hp], hJr, hKr⟩
          case measure => simp [toN]; omega
attribute [local go_sem] Oper.semAt_some
theorem walk_any (l:Nat) {w0:World} {J Jx:List (zee w0)→World→Prop} {k:List UInt8} {N B:Nat} (hAb:AbidesFrom B J)
  (hY:∀ m pre x W,J pre W→pre.length<N→YieldAt Fence.wide m Tryz.prog l x.enc W fun e W'=>(e=.returned (.bool true)∧J (pre++[x]) W'∧KpW w0.heap.size W W')∨(e=.returned (.bool false)∧Jx (pre++[x]) W'))
  (d:Nat):zr1 l J Jx k N d:=Nat.strongRecOn d fun _ ih=>zpz l hAb hY ih
theorem from1_in (l : Nat) {w0 : World} {J Jx : List (zee w0) → World → Prop} {n : Nd} {k : List UInt8} {a : Option Addr} {c N B nb kb : Nat} {x y z : Value} (hr : RdN (· < w0.heap.size) w0 (.agg #[x,y,z]) n) (hf : fitN n) (hk : RdS (· < w0.heap.size) w0 (.slice a k.length c) k) (hAb : AbidesFrom B J)
  (hY : ∀ pre x W,J pre W → pre.length < N → YieldAt Fence.wide 1 Tryz.prog l x.enc W fun e W' => (e = .returned (.bool true) ∧ J (pre ++ [x]) W' ∧ KpW w0.heap.size W W') ∨ (e = .returned (.bool false) ∧ Jx (pre ++ [x]) W'))
  (W : World) (hW : Below w0.heap.size w0 W) (hnb : TriV W nb 26 x y z) (hkb : W.cell? ⟨kb,0,none⟩ = some (.slice a k.length c)) (h0 : J [] W) (hN : (geK (prN n) k).length ≤ N) :
  CallsIn Fence.wide 2 Tryz.prog 78 #[.func (.yield l) #[] #[],.pointer (some ⟨nb,0,none⟩),.pointer (some ⟨kb,0,none⟩)] W fun e W' => (∃ v,e = .returned v) ∧ ((∃ ys : List (zee w0),ys.map (·.t) = geK (prN n) k ∧ J ys W') ∨ (∃ pre,PreK (geK (prN n) k) pre ∧ Jx pre W')) := by
 have hr0 := hr
 obtain ⟨a1,c1,a2,c2,a3,c3,eqv,_,_,_⟩ := hr
 injection eqv with eqv
 injection eqv with eqv
 injection eqv with ex eqv
 injection eqv with ey eqv
 injection eqv with ez _
 subst ex ey ez
 have hwn : wN n ≤ 1000000 := by have := hf.1; omega
 have hch := zci W (zny hr0 hW) hwn
 have tn0 := hnb.cell0
 have tn1 := hnb.cell1
 have tn2 := hnb.cell2
 refine callsIn_of_wp Tryz.func78 rfl trivial ?_ rfl
 simp only [Tryz.ntmps78,List.size_toArray,List.length_cons,List.length_nil,Nat.reduceAdd,Nat.reduceSub,Array.replicate_succ,Array.replicate_zero,List.push_toArray,List.append_toArray,List.nil_append,List.cons_append]
 refine wpIn_wide.2 ?_
 by_cases hok : okN n
 ·obtain ⟨d,hpn⟩ := zqz hok
  rw [decide_eq_true hok] at hch
  have hpr : prN n = zaa n := by unfold prN; rw [if_pos hok]
  rw [hpr] at hN ⊢
  replace hpr := Lib.hid hpr
  go_wp2_with fail
  refine hch.mono ?_
  rintro e W1 ⟨rfl,hb1⟩
  have bn1 := hnb.below hb1 hnb.lt
  have hkb1 := (hb1.cell (p := ⟨kb,0,none⟩) (zaj hkb)).trans hkb
  clear tn0 tn1 tn2 hch hnb hkb
  have tn0 := bn1.cell0
  have tn1 := bn1.cell1
  have tn2 := bn1.cell2
  have hJ1 : J [] W1 := hAb _ _ _ none h0 (za1 hb1) (by simp)
  have hwk := (callsIn_wide (n := 1)).1 (walk_any l hAb (fun m pre x W h1 h2 => zpp m (hY pre x W h1 h2)) d n 1 _ a c [] W1 hpn hf.2 hr0 (KpW.of (hW.trans (hb1.mono hW.size)) (Nat.le_refl _)) hk hJ1 (by simpa using hN))
  go_wp2_with fail
  refine hwk.mono ?_
  rintro e W2 (⟨rfl,⟨ys,hys,hJ2⟩,_⟩ | ⟨rfl,ys,hpk,hx⟩)
  ·go_wp2_with fail
   go_end0
   exact ⟨⟨_,rfl⟩,.inl ⟨ys,hys,by simpa using hJ2⟩⟩
  ·go_wp2_with fail
   go_end0
   exact ⟨⟨_,rfl⟩,.inr ⟨_,hpk,hx⟩⟩
 ·rw [decide_eq_false hok] at hch
  have hpr : prN n = [] := by unfold prN; rw [if_neg hok]
  rw [hpr]
  replace hpr := Lib.hid hpr
  go_wp2_with fail
  refine hch.mono ?_
  rintro e W1 ⟨rfl,hb1⟩
  have hJ1 : J [] W1 := hAb _ _ _ none h0 (za1 hb1) (by simp)
  go_wp2_with fail
  go_end0
  exact ⟨⟨_,rfl⟩,.inl ⟨[],rfl,hJ1⟩⟩
theorem zi2 {w0 w : World} {n : Nd} {k : List UInt8} {a : Option Addr} {c N nb kb : Nat} {x y z : Value} (hr : RdN (· < w0.heap.size) w0 (.agg #[x,y,z]) n) (hf : fitN n) (hk : RdS (· < w0.heap.size) w0 (.slice a k.length c) k) (hw : Below w0.heap.size w0 w)
  (hnb : TriV w nb 26 x y z) (hkb : w.cell? ⟨kb,0,none⟩ = some (.slice a k.length c)) (hN : (geK (prN n) k).length ≤ N) :
  SeqStopsK Fence.wide 2 Tryz.prog 78 #[.pointer (some ⟨nb,0,none⟩),.pointer (some ⟨kb,0,none⟩)] zee.enc (KpW w0.heap.size) (fun ys : List (zee w0) => ys.map (·.t) = geK (prN n) k) (PreK (geK (prN n) k)) N w := fun l _ _ W hW hAb _ hY h0 =>
 from1_in l hr hf hk hAb hY W (hw.trans (hW.mono hw.size)) (hnb.below hW hnb.lt) ((hW.cell (p := ⟨kb,0,none⟩) (zaj hkb)).trans hkb) h0 hN
theorem zoe (w : World) (x y z : Value) (a : Option Addr) (m c : Nat) :
  Calls Tryz.prog 63 #[.agg #[x,y,z],.slice a m c] w fun e w' => e = .returned (.func (.func 78) #[] #[.pointer (some ⟨w.heap.size,0,none⟩),.pointer (some ⟨w.heap.size + 1,0,none⟩)]) ∧
   w' = (w.alloc (.cells #[x,y,z] 26)).alloc (.cells #[.slice a m c] 30) := by
 go_enter Tryz.func63,Tryz.ntmps63
 go_wp2
 go_ret
 exact ⟨rfl,rfl⟩
section
variable {Km Kb : World → World → Prop}
def kn(Km Kb:World→World→Prop)(m m2 i:Nat)(A B:World):Prop:=if i=m then Km A B else if i=m2 then Kb A B else Below A.heap.size A B
end
variable {P : Program} {Q : Exit → Act → World → Prop}
theorem zou {P : Program} {o : Oper} {a : Act} {K : Act → World → Prop} {Q : Exit → Act → World → Prop} {w : World} {t : TypeId} {x y : Operand} {b f : Nat} {u : Value} {ad : Option Addr} {k c : Nat} (ho : o.op = .store t x y) (hu : (P.info? t).map (·.size) = some 1) (hx : a.eval x = .pointer (some ⟨b,f,none⟩)) (hy : a.eval y = .slice ad k c) (hc : w.cell? ⟨b,f,none⟩ = some u) (hf : w.frozen? ⟨b,f,none⟩ = false)
  (h : K (a.put o.dst undef) (w.setCell ⟨b,f,none⟩ (.slice ad k c))) : o.wp P a w K Q := by
 refine zep ?_ h
 simp only [execOp,ho,hx,hy]
 simp [Instr.storeAt,storeVar,zck hu,storeCells,Value.cells,run_store _ _ _ _ _ (show (Value.slice ad k c).oneCell' = true from rfl),hc,hf,go_sem]
end Go.Proofs.YtlpfhgdnmjkngaaGreat
