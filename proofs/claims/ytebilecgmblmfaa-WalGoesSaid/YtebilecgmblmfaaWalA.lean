/-
  THE WALK OF awake (the laws of wal): true; by wal's contracts.
-/
import Derived.WalkKit
import Derived.WalkSpells
import Derived.WalkLawsBesides
import Derived.Lib.Hide
import Derived.Deep.Cut
import Derived.Test.YtebilecgmblmfaaProg
import Derived.Test.YtebilecgmblmfaaByte
import Derived.Test.YtebilecgmblmfaaAux
import Derived.Test.YtebilecgmblmfaaMake
import Derived.Test.YtebilecgmblmfaaRyo
import Derived.Test.YtebilecgmblmfaaKept
import Derived.Test.YtebilecgmblmfaaLink
import Derived.Test.YtebilecgmblmfaaFrmF
import Derived.Test.YtebilecgmblmfaaWalM
import Derived.Test.YtebilecgmblmfaaWalR
import Derived.Test.YtebilecgmblmfaaWalS
import Derived.Test.YtebilecgmblmfaaWalC
import Derived.Test.YtebilecgmblmfaaWalV
namespace Go.Proofs.Ytebilecgmblmfaa
open Go.RowKit
section
variable {P : Program} {T2 T : TypeId} {ops : Array Oper} {rest : List Oper} {o : Oper} {a : Act} {Q : Exit → Act → World → Prop} {w : World}
/-- '[][]byte{x}' in the plain walk. -/
theorem wpList_oneRow (hP : RyP P T2 T) {y : Operand} {A : Option Addr} {L C : Nat} {ys : List UInt8} (ho : o.op = .buildSlice T2 1 #[(0, y)]) (hgd : Region.wanted o (yielded ops a.tmps) = true) (hy : a.eval y = .slice A L C) (hr : Rd w.heap.size w (.slice A L C) ys)
    (h : ∀ b w', RdRows w' (.slice (some ⟨b, 0, none⟩) 1 1) [ys] → Below w.heap.size w w' → wpList P ops Q rest (a.put o.dst (.slice (some ⟨b, 0, none⟩) 1 1)) w') : wpList P ops Q (o :: rest) a w :=
  BigFrame.wpList_want hgd fun _ hK => wp_oneRow hP ho hy (hK _ _ (h _ _ (rows_one (heap_alloc_self _ _) ((hr.below ((Below.refl _ _).alloc (Nat.le_refl _) _)).mono (Below.alloc (Below.refl w.heap.size w) (Nat.le_refl _) _).size)) ((Below.refl _ _).alloc (Nat.le_refl _) _)))
end
/-- The contracts of wal's functions, without awake. -/
structure WalC0 : Prop where
  check : ∀ (w : World) {B : Nat} {a : Option Addr} {n c : Nat} {bs : List UInt8} {s : Int}, Rd B w (.slice a n c) bs → B ≤ w.heap.size → bs.length ≤ 1000000 → I64 s →
    Calls Try.prog 23 #[.agg #[.slice a n c, .int .i64 s]] w fun e w' => e = .returned (.bool (decide (okL bs s))) ∧ Below w.heap.size w w'
  sync : ∀ (w : World) {B : Nat} {a : Option Addr} {n c : Nat} {bs : List UInt8} {s : Int}, Rd B w (.slice a n c) bs → B ≤ w.heap.size → bs.length ≤ 1000000 → I64 s →
    Calls Try.prog 14 #[.agg #[.slice a n c, .int .i64 s]] w (LogEnd w bs (syncN bs s))
  crash : ∀ (w : World) {B : Nat} {a : Option Addr} {n c : Nat} {bs : List UInt8} {s keep : Int}, Rd B w (.slice a n c) bs → B ≤ w.heap.size → bs.length ≤ 1000000 → I64 s → I64 keep →
    Calls Try.prog 16 #[.agg #[.slice a n c, .int .i64 s], .int .i64 keep] w (LogEnd w (crashB bs s keep) (crashN bs s keep))
  trim : ∀ (w : World) {B : Nat} {a : Option Addr} {n c : Nat} {bs : List UInt8} {s : Int}, Rd B w (.slice a n c) bs → B ≤ w.heap.size → bs.length ≤ 1000000 → I64 s →
    Calls Try.prog 18 #[.agg #[.slice a n c, .int .i64 s]] w (LogEnd w (trimB bs s) (trimN bs s))
  texts : ∀ (w : World) {B : Nat} {a : Option Addr} {n c : Nat} {bs : List UInt8} {s : Int}, Rd B w (.slice a n c) bs → B ≤ w.heap.size → bs.length ≤ 1000000 → I64 s →
    Calls Try.prog 21 #[.agg #[.slice a n c, .int .i64 s]] w (TextsEnd w bs s)
  app : ∀ (w : World) {B : Nat} {a : Option Addr} {n c : Nat} {bs : List UInt8} {s : Int}, Rd B w (.slice a n c) bs → B ≤ w.heap.size → bs.length ≤ 1000000 → I64 s →
    ∀ {w0 : World} {a2 : Option Addr} {n2 c2 : Nat} {tss : List (List UInt8)}, RdRows w0 (.slice a2 n2 c2) tss → Below w0.heap.size w0 w → tss.length ≤ 100 →
    Calls Try.prog 11 #[.agg #[.slice a n c, .int .i64 s], .slice a2 n2 c2] w (AppEnd w bs s tss)
theorem rd_zeros {w w' : World} {v : Value} (h : Fresh 5 w w' v (List.replicate 19999 0)) : ∃ zs : List UInt8, zs.length = 19999 ∧ Rd w'.heap.size w' v zs := ⟨_, List.length_replicate, h.rd⟩
theorem app_known4 {w w' : World} {bs zs : List UInt8} {s : Int} {tss : List (List UInt8)} {er : Nat} {e : Ending} (hA : appS bs s tss = (zs, er)) (h : AppEnd w bs s tss e w') :
    ∃ a k c, e = .returned (.tuple #[.agg #[.slice a k c, .int .i64 s], .int .i64 (er : Nat)]) ∧ Rd w'.heap.size w' (.slice a k c) zs ∧ Below w.heap.size w w' := by
  unfold AppEnd at h; rw [hA] at h; exact h
set_option maxRecDepth 100000 in
set_option maxHeartbeats 2000000 in
theorem awake4_any (hC : WalC0) (w : World) : Calls Try.prog 9 #[] w fun e w' => e = .returned (.bool true) ∧ Below w.heap.size w w' := by
  go_enter Try.func9, Try.ntmps9
  have q := Below.refl w.heap.size w
  go_wp2_with (first | (refine wpList_const byP rfl (fun _ => rfl) rfl rfl (by simp) rfl [97] (by simp [bv, Act.eval]) rfl (by simp) ?_; intro u1 g1 k1 w1 hb1 hr1) | (refine wpList_oneRow ryP rfl rfl rfl hr1 ?_; intro b1 x1 ht1 hb1r))
  replace q := q.trans (hb1.mono q.size)
  replace q := q.trans (hb1r.mono q.size)
  refine (hC.app x1 (Rd.nil 0 _) (Nat.zero_le _) (by simp) ⟨by omega, by omega⟩ ht1 (Below.refl _ _) (by simp)).mono ?_
  rintro e v1 hA
  obtain ⟨aa, ka, ca, rfl, ra, hb⟩ := app_known4 v_app1 hA
  clear hA hb1 hr1 ht1 hb1r
  replace q := q.trans (hb.mono q.size)
  go_upto_region 2 with (fail)
  have pa := PairV.new v1 24 (.slice aa ka ca) (.int .i64 0)
  have hbx : Below v1.heap.size v1 (v1.alloc (.cells #[.slice aa ka ca, .int .i64 0] 24)) := (Below.refl _ _).alloc (Nat.le_refl _) _
  replace ra := (ra.below hbx).mono hbx.size
  replace q := q.trans (hbx.mono q.size)
  clear hbx
  generalize v1.alloc (.cells #[.slice aa ka ca, .int .i64 0] 24) = W1 at *
  obtain rfl : ka = 6 := ra.len.1.trans vA_len
  have pac0 := pa.cell0
  have pac1 := pa.cell1
  go_wp2_with fail
  refine (hC.sync _ ra (Nat.le_refl _) (by rw [vA_len]; omega) ⟨by omega, by omega⟩).mono ?_
  rw [v_sync]
  rintro e v2 ⟨ay, ky, cy, rfl, rs, hb⟩
  clear pac0 pac1
  replace pa := pa.below hb pa.lt
  replace ra := (ra.below hb).mono hb.size
  replace q := q.trans (hb.mono q.size)
  go_wp2_with (first | (refine wpList_const byP rfl (fun _ => rfl) rfl rfl (by simp) rfl [98] (by simp [bv, Act.eval]) rfl (by simp) ?_; intro u2 g2 k2 w2 hb2 hr2) | (refine wpList_oneRow ryP rfl rfl rfl hr2 ?_; intro b2 x2 ht2 hb2r))
  replace pa := pa.below hb2 pa.lt
  replace ra := (ra.below hb2).mono hb2.size
  replace rs := (rs.below hb2).mono hb2.size
  replace q := q.trans (hb2.mono q.size)
  replace pa := pa.below hb2r pa.lt
  replace ra := (ra.below hb2r).mono hb2r.size
  replace rs := (rs.below hb2r).mono hb2r.size
  replace q := q.trans (hb2r.mono q.size)
  refine (hC.app x2 rs (Nat.le_refl _) (by rw [vA_len]; omega) ⟨by omega, by omega⟩ ht2 (Below.refl _ _) (by simp)).mono ?_
  rintro e v3 hA
  obtain ⟨ab, kb, cb, rfl, rb, hb⟩ := app_known4 v_app2 hA
  clear hA hb2 hr2 ht2 hb2r
  replace pa := pa.below hb pa.lt
  replace ra := (ra.below hb).mono hb.size
  replace rs := (rs.below hb).mono hb.size
  replace q := q.trans (hb.mono q.size)
  go_upto_region 3 with (fail)
  have pb := PairV.new v3 24 (.slice ab kb cb) (.int .i64 6)
  have hbx : Below v3.heap.size v3 (v3.alloc (.cells #[.slice ab kb cb, .int .i64 6] 24)) := (Below.refl _ _).alloc (Nat.le_refl _) _
  replace pa := pa.alloc (.cells #[.slice ab kb cb, .int .i64 6] 24)
  replace ra := (ra.below hbx).mono hbx.size
  replace rs := (rs.below hbx).mono hbx.size
  replace rb := (rb.below hbx).mono hbx.size
  replace q := q.trans (hbx.mono q.size)
  clear hbx
  generalize v3.alloc (.cells #[.slice ab kb cb, .int .i64 6] 24) = W2 at *
  obtain rfl : kb = 12 := rb.len.1.trans vB_len
  have pbc0 := pb.cell0
  have pbc1 := pb.cell1
  go_wp2_with fail
  refine (hC.crash _ rb (Nat.le_refl _) (by rw [vB_len]; omega) ⟨by omega, by omega⟩ ⟨by omega, by omega⟩).mono ?_
  rw [v_crash0.1, v_crash0.2]
  rintro e v4 ⟨ac, kc, cc, rfl, rc, hb⟩
  clear pbc0 pbc1
  replace pa := pa.below hb pa.lt
  replace pb := pb.below hb pb.lt
  replace ra := (ra.below hb).mono hb.size
  replace rs := (rs.below hb).mono hb.size
  replace rb := (rb.below hb).mono hb.size
  replace q := q.trans (hb.mono q.size)
  go_upto_region 4 with (fail)
  have pc := PairV.new v4 24 (.slice ac kc cc) (.int .i64 6)
  have hbx : Below v4.heap.size v4 (v4.alloc (.cells #[.slice ac kc cc, .int .i64 6] 24)) := (Below.refl _ _).alloc (Nat.le_refl _) _
  replace pa := pa.alloc (.cells #[.slice ac kc cc, .int .i64 6] 24)
  replace pb := pb.alloc (.cells #[.slice ac kc cc, .int .i64 6] 24)
  replace ra := (ra.below hbx).mono hbx.size
  replace rs := (rs.below hbx).mono hbx.size
  replace rb := (rb.below hbx).mono hbx.size
  replace rc := (rc.below hbx).mono hbx.size
  replace q := q.trans (hbx.mono q.size)
  clear hbx
  generalize v4.alloc (.cells #[.slice ac kc cc, .int .i64 6] 24) = W3 at *
  obtain rfl : kc = 6 := rc.len.1.trans vA_len
  have pbc0 := pb.cell0
  have pbc1 := pb.cell1
  go_wp2_with fail
  refine (hC.crash _ rb (Nat.le_refl _) (by rw [vB_len]; omega) ⟨by omega, by omega⟩ ⟨by omega, by omega⟩).mono ?_
  rw [v_crash11.1, v_crash11.2]
  rintro e v5 ⟨ad, kd, cd, rfl, rd, hb⟩
  clear pbc0 pbc1
  replace pa := pa.below hb pa.lt
  replace pb := pb.below hb pb.lt
  replace pc := pc.below hb pc.lt
  replace ra := (ra.below hb).mono hb.size
  replace rs := (rs.below hb).mono hb.size
  replace rb := (rb.below hb).mono hb.size
  replace rc := (rc.below hb).mono hb.size
  replace q := q.trans (hb.mono q.size)
  go_wp2_with fail
  refine (hC.trim _ rd (Nat.le_refl _) (Nat.le_trans v_cut_ok.1 (by omega)) ⟨by omega, by omega⟩).mono ?_
  rw [v_trim.1, v_trim.2]
  rintro e v6 ⟨at', kt, ct, rfl, rt, hb⟩
  replace pa := pa.below hb pa.lt
  replace pb := pb.below hb pb.lt
  replace pc := pc.below hb pc.lt
  replace ra := (ra.below hb).mono hb.size
  replace rs := (rs.below hb).mono hb.size
  replace rb := (rb.below hb).mono hb.size
  replace rc := (rc.below hb).mono hb.size
  replace rd := (rd.below hb).mono hb.size
  replace q := q.trans (hb.mono q.size)
  go_upto_region 5 with (fail)
  have pd := PairV.new v6 24 (.slice at' kt ct) (.int .i64 6)
  have hbx : Below v6.heap.size v6 (v6.alloc (.cells #[.slice at' kt ct, .int .i64 6] 24)) := (Below.refl _ _).alloc (Nat.le_refl _) _
  replace pa := pa.alloc (.cells #[.slice at' kt ct, .int .i64 6] 24)
  replace pb := pb.alloc (.cells #[.slice at' kt ct, .int .i64 6] 24)
  replace pc := pc.alloc (.cells #[.slice at' kt ct, .int .i64 6] 24)
  replace ra := (ra.below hbx).mono hbx.size
  replace rs := (rs.below hbx).mono hbx.size
  replace rb := (rb.below hbx).mono hbx.size
  replace rc := (rc.below hbx).mono hbx.size
  replace rd := (rd.below hbx).mono hbx.size
  replace rt := (rt.below hbx).mono hbx.size
  replace q := q.trans (hbx.mono q.size)
  clear hbx
  generalize v6.alloc (.cells #[.slice at' kt ct, .int .i64 6] 24) = W4 at *
  obtain rfl : kt = 6 := rt.len.1.trans vA_len
  go_wp2_with fail
  refine (hC.app _ (Rd.nil 0 _) (Nat.zero_le _) (by simp) ⟨by omega, by omega⟩ (w0 := W4) (tss := []) ⟨none, 0, rfl, Nat.le_refl _, by unfold maxLen; omega, .inl rfl⟩ (Below.refl _ _) (by simp)).mono ?_
  rintro e v7 hA
  obtain ⟨ag, kg, cg, rfl, rg, hb⟩ := app_known4 (v_arg _) hA
  clear hA
  replace pa := pa.below hb pa.lt
  replace pb := pb.below hb pb.lt
  replace pc := pc.below hb pc.lt
  replace pd := pd.below hb pd.lt
  replace ra := (ra.below hb).mono hb.size
  replace rs := (rs.below hb).mono hb.size
  replace rb := (rb.below hb).mono hb.size
  replace rc := (rc.below hb).mono hb.size
  replace rd := (rd.below hb).mono hb.size
  replace rt := (rt.below hb).mono hb.size
  replace q := q.trans (hb.mono q.size)
  go_upto_region 6 with (fail)
  have pg := PairV.new v7 24 (.slice ag kg cg) (.int .i64 1)
  have hbx : Below v7.heap.size v7 (v7.alloc (.cells #[.slice ag kg cg, .int .i64 1] 24)) := (Below.refl _ _).alloc (Nat.le_refl _) _
  replace pa := pa.alloc (.cells #[.slice ag kg cg, .int .i64 1] 24)
  replace pb := pb.alloc (.cells #[.slice ag kg cg, .int .i64 1] 24)
  replace pc := pc.alloc (.cells #[.slice ag kg cg, .int .i64 1] 24)
  replace pd := pd.alloc (.cells #[.slice ag kg cg, .int .i64 1] 24)
  replace ra := (ra.below hbx).mono hbx.size
  replace rs := (rs.below hbx).mono hbx.size
  replace rb := (rb.below hbx).mono hbx.size
  replace rc := (rc.below hbx).mono hbx.size
  replace rd := (rd.below hbx).mono hbx.size
  replace rt := (rt.below hbx).mono hbx.size
  replace q := q.trans (hbx.mono q.size)
  clear hbx
  generalize v7.alloc (.cells #[.slice ag kg cg, .int .i64 1] 24) = W5 at *
  go_wp2_with (first | (refine wpList_makeN byP rfl rfl (k := 19999) rfl rfl ?_ ?hk1 ?hk2; intro g3 x3 hF3; have hb3a := hF3.1; obtain ⟨zs, hzl, rz⟩ := rd_zeros hF3; clear hF3) | (refine wpList_const byP rfl (fun _ => rfl) rfl rfl (by simp) rfl [97] (by simp [bv, Act.eval]) rfl (by simp) ?_; intro u4 g4 k4 w4 hb4 hr4) | (refine wpList_oneRow ryP rfl rfl rfl hr4 ?_; intro b4 x4 ht4 hb4r))
  case hk1 => omega
  case hk2 => omega
  replace pa := pa.below hb3a pa.lt
  replace pb := pb.below hb3a pb.lt
  replace pc := pc.below hb3a pc.lt
  replace pd := pd.below hb3a pd.lt
  replace pg := pg.below hb3a pg.lt
  replace ra := (ra.below hb3a).mono hb3a.size
  replace rs := (rs.below hb3a).mono hb3a.size
  replace rb := (rb.below hb3a).mono hb3a.size
  replace rc := (rc.below hb3a).mono hb3a.size
  replace rd := (rd.below hb3a).mono hb3a.size
  replace rt := (rt.below hb3a).mono hb3a.size
  replace q := q.trans (hb3a.mono q.size)
  replace pa := pa.below hb4 pa.lt
  replace pb := pb.below hb4 pb.lt
  replace pc := pc.below hb4 pc.lt
  replace pd := pd.below hb4 pd.lt
  replace pg := pg.below hb4 pg.lt
  replace ra := (ra.below hb4).mono hb4.size
  replace rs := (rs.below hb4).mono hb4.size
  replace rb := (rb.below hb4).mono hb4.size
  replace rc := (rc.below hb4).mono hb4.size
  replace rd := (rd.below hb4).mono hb4.size
  replace rt := (rt.below hb4).mono hb4.size
  replace rz := (rz.below hb4).mono hb4.size
  replace q := q.trans (hb4.mono q.size)
  replace pa := pa.below hb4r pa.lt
  replace pb := pb.below hb4r pb.lt
  replace pc := pc.below hb4r pc.lt
  replace pd := pd.below hb4r pd.lt
  replace pg := pg.below hb4r pg.lt
  replace ra := (ra.below hb4r).mono hb4r.size
  replace rs := (rs.below hb4r).mono hb4r.size
  replace rb := (rb.below hb4r).mono hb4r.size
  replace rc := (rc.below hb4r).mono hb4r.size
  replace rd := (rd.below hb4r).mono hb4r.size
  replace rt := (rt.below hb4r).mono hb4r.size
  replace rz := (rz.below hb4r).mono hb4r.size
  replace q := q.trans (hb4r.mono q.size)
  refine (hC.app _ rz (Nat.le_refl _) (by omega) ⟨by omega, by omega⟩ ht4 (Below.refl _ _) (by simp)).mono ?_
  rintro e v8 hA
  obtain ⟨ah, kh, ch, rfl, rh, hb⟩ := app_known4 (v_full hzl) hA
  clear hA hb3a hb4 hr4 ht4 hb4r
  replace pa := pa.below hb pa.lt
  replace pb := pb.below hb pb.lt
  replace pc := pc.below hb pc.lt
  replace pd := pd.below hb pd.lt
  replace pg := pg.below hb pg.lt
  replace ra := (ra.below hb).mono hb.size
  replace rs := (rs.below hb).mono hb.size
  replace rb := (rb.below hb).mono hb.size
  replace rc := (rc.below hb).mono hb.size
  replace rd := (rd.below hb).mono hb.size
  replace rt := (rt.below hb).mono hb.size
  replace rz := (rz.below hb).mono hb.size
  replace q := q.trans (hb.mono q.size)
  go_upto_region 7 with (fail)
  have ph := PairV.new v8 24 (.slice ah kh ch) (.int .i64 0)
  have hbx : Below v8.heap.size v8 (v8.alloc (.cells #[.slice ah kh ch, .int .i64 0] 24)) := (Below.refl _ _).alloc (Nat.le_refl _) _
  replace pa := pa.alloc (.cells #[.slice ah kh ch, .int .i64 0] 24)
  replace pb := pb.alloc (.cells #[.slice ah kh ch, .int .i64 0] 24)
  replace pc := pc.alloc (.cells #[.slice ah kh ch, .int .i64 0] 24)
  replace pd := pd.alloc (.cells #[.slice ah kh ch, .int .i64 0] 24)
  replace pg := pg.alloc (.cells #[.slice ah kh ch, .int .i64 0] 24)
  replace ra := (ra.below hbx).mono hbx.size
  replace rs := (rs.below hbx).mono hbx.size
  replace rb := (rb.below hbx).mono hbx.size
  replace rc := (rc.below hbx).mono hbx.size
  replace rd := (rd.below hbx).mono hbx.size
  replace rt := (rt.below hbx).mono hbx.size
  replace rz := (rz.below hbx).mono hbx.size
  replace q := q.trans (hbx.mono q.size)
  clear hbx
  generalize v8.alloc (.cells #[.slice ah kh ch, .int .i64 0] 24) = W6 at *
  clear rz
  have pbc0 := pb.cell0
  have pbc1 := pb.cell1
  go_wp2_with fail
  refine (hC.texts _ rb (Nat.le_refl _) (by rw [vB_len]; omega) ⟨by omega, by omega⟩).mono ?_
  rintro e v9 ⟨ax, kx, cx, rfl, hOx, hb⟩
  clear pbc0 pbc1
  replace pa := pa.below hb pa.lt
  replace pb := pb.below hb pb.lt
  replace pc := pc.below hb pc.lt
  replace pd := pd.below hb pd.lt
  replace pg := pg.below hb pg.lt
  replace ph := ph.below hb ph.lt
  replace ra := (ra.below hb).mono hb.size
  replace rs := (rs.below hb).mono hb.size
  replace rb := (rb.below hb).mono hb.size
  replace rc := (rc.below hb).mono hb.size
  replace rd := (rd.below hb).mono hb.size
  replace rt := (rt.below hb).mono hb.size
  replace q := q.trans (hb.mono q.size)
  rw [v_texts.1] at hOx
  obtain rfl : kx = 2 := hOx.len
  have rx := hOx.rows
  have qx := Below.refl v9.heap.size v9
  clear hOx hb
  have pcc0 := pc.cell0
  have pcc1 := pc.cell1
  go_wp2_with fail
  refine (hC.texts _ rc (Nat.le_refl _) (by rw [vA_len]; omega) ⟨by omega, by omega⟩).mono ?_
  rintro e v10 ⟨az, kz, cz, rfl, hOz, hb⟩
  clear pcc0 pcc1
  replace pa := pa.below hb pa.lt
  replace pb := pb.below hb pb.lt
  replace pc := pc.below hb pc.lt
  replace pd := pd.below hb pd.lt
  replace pg := pg.below hb pg.lt
  replace ph := ph.below hb ph.lt
  replace ra := (ra.below hb).mono hb.size
  replace rs := (rs.below hb).mono hb.size
  replace rb := (rb.below hb).mono hb.size
  replace rc := (rc.below hb).mono hb.size
  replace rd := (rd.below hb).mono hb.size
  replace rt := (rt.below hb).mono hb.size
  replace qx := qx.trans (hb.mono qx.size)
  replace q := q.trans (hb.mono q.size)
  rw [v_texts.2] at hOz
  obtain rfl : kz = 1 := hOz.len
  have rz := hOz.rows
  have qz := Below.refl v10.heap.size v10
  clear hOz hb
  obtain ⟨bz, fz, Az, Lz, Cz, rfl, hbz, hcz, hrz⟩ := rz.at qz 0 (by simp)
  rw [Nat.add_zero] at hcz
  replace hrz : Rd _ _ (.slice Az Lz Cz) [97] := hrz
  have hst : strOf [97] = ByteArray.mk #[97] := rfl
  have pac0 := pa.cell0
  have pac1 := pa.cell1
  have pbc0 := pb.cell0
  have pbc1 := pb.cell1
  have pcc0 := pc.cell0
  have pcc1 := pc.cell1
  have pdc0 := pd.cell0
  have pdc1 := pd.cell1
  go_upto_region 9 with (fail)
  go_wp2_with (first | (refine wpList_conv byP rfl rfl rfl hrz ?_) | (refine wpList_conv byP rfl rfl rfl rt ?_) | (refine wpList_conv byP rfl rfl rfl ra ?_))
  refine (hC.check _ (s := 6) rb (Nat.le_refl _) (by rw [vB_len]; omega) ⟨by omega, by omega⟩).mono ?_
  rw [decide_eq_true vB_ok]
  rintro e v11 ⟨rfl, hb⟩
  clear pac0 pac1 pbc0 pbc1 pcc0 pcc1 pdc0 pdc1
  replace pa := pa.below hb pa.lt
  replace pb := pb.below hb pb.lt
  replace pc := pc.below hb pc.lt
  replace pd := pd.below hb pd.lt
  replace pg := pg.below hb pg.lt
  replace ph := ph.below hb ph.lt
  replace ra := (ra.below hb).mono hb.size
  replace rs := (rs.below hb).mono hb.size
  replace rb := (rb.below hb).mono hb.size
  replace rc := (rc.below hb).mono hb.size
  replace rd := (rd.below hb).mono hb.size
  replace rt := (rt.below hb).mono hb.size
  replace qx := qx.trans (hb.mono qx.size)
  replace q := q.trans (hb.mono q.size)
  go_wp2_with fail
  refine (hC.check _ (s := -1) (Rd.nil 0 _) (Nat.zero_le _) (by simp) ⟨by omega, by omega⟩).mono ?_
  rw [decide_eq_false v_neg]
  rintro e v12 ⟨rfl, hb⟩
  replace pa := pa.below hb pa.lt
  replace pb := pb.below hb pb.lt
  replace pc := pc.below hb pc.lt
  replace pd := pd.below hb pd.lt
  replace pg := pg.below hb pg.lt
  replace ph := ph.below hb ph.lt
  replace ra := (ra.below hb).mono hb.size
  replace rs := (rs.below hb).mono hb.size
  replace rb := (rb.below hb).mono hb.size
  replace rc := (rc.below hb).mono hb.size
  replace rd := (rd.below hb).mono hb.size
  replace rt := (rt.below hb).mono hb.size
  replace qx := qx.trans (hb.mono qx.size)
  replace q := q.trans (hb.mono q.size)
  go_wp2_with fail
  go_ret
  exact ⟨rfl, q⟩
/-- All that the laws take. -/
theorem WalC0.full (h : WalC0) : WalC := ⟨awake4_any h, h.check, h.sync, h.crash, h.trim, h.texts, h.app⟩
end Go.Proofs.Ytebilecgmblmfaa
