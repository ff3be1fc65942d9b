/-
  THE WALK OF FrameTells: whatever the text and the bytes: true, and nothing that lay has turned.
-/
import Derived.WalkKit
import Derived.WalkSpells
import Derived.WalkLawsBesides
import Derived.Lib.Hide
import Derived.Test.YtppfedpocpadeaaProg
import Derived.Test.YtppfedpocpadeaaByte
import Derived.Test.YtppfedpocpadeaaAux
import Derived.Test.YtppfedpocpadeaaFrmC
import Derived.Test.YtppfedpocpadeaaFrmD
import Derived.Test.YtppfedpocpadeaaFrmF
import Derived.Test.YtppfedpocpadeaaFrmG
import Derived.Test.YtppfedpocpadeaaFrmH
namespace Go.Proofs.Ytppfedpocpadeaa
open Go.RowKit
theorem Rd.later {w w' : World} {v : Value} {xs : List UInt8} (h : Rd w.heap.size w v xs) (hb : Below w.heap.size w w') : Rd w'.heap.size w' v xs := (h.below hb).mono hb.size
set_option maxRecDepth 100000 in
set_option maxHeartbeats 2000000 in
theorem FrameTells_w (w : World) {a0 : Option Addr} {n0 c0 : Nat} {ts : List UInt8} (ht : Rd w.heap.size w (.slice a0 n0 c0) ts) {a1 : Option Addr} {n1 c1 : Nat} {bs : List UInt8} (hs : Rd w.heap.size w (.slice a1 n1 c1) bs) :
    Calls Try.prog 3 #[.slice a0 n0 c0, .slice a1 n1 c1] w fun e w' => e = .returned (.bool true) ∧ Below w.heap.size w w' := by
  obtain rfl : n0 = ts.length := ht.len.1
  obtain rfl : n1 = bs.length := hs.len.1
  have htm : ts.length ≤ 9223372036854775807 := by have := ht.len.2; unfold maxLen at this; omega
  have hsm : bs.length ≤ 9223372036854775807 := by have := hs.len.2; unfold maxLen at this; omega
  by_cases h : 3000 < ts.length
  · have d : decide ((3000 : Int) < ts.length) = true := by simp; omega
    go_enter Try.func3, Try.ntmps3
    go_wp2_with fail
    refine (awake3_any _).mono ?_
    rintro e w1 ⟨rfl, hb⟩
    go_wp2
    go_ret
    exact ⟨rfl, hb⟩
  have d : decide ((3000 : Int) < ts.length) = false := by simp; omega
  by_cases h2 : 3000 < bs.length
  · have d2 : decide ((3000 : Int) < bs.length) = true := by simp; omega
    clear h
    go_enter Try.func3, Try.ntmps3
    go_wp2_with fail
    refine (awake3_any _).mono ?_
    rintro e w1 ⟨rfl, hb⟩
    go_wp2
    go_ret
    exact ⟨rfl, hb⟩
  have d2 : decide ((3000 : Int) < bs.length) = false := by simp; omega
  have hb1 : bs.length ≤ 1000000 := by omega
  clear h h2
  by_cases h3 : ts.length ≤ 2000
  · go_enter Try.func3, Try.ntmps3
    go_wp2_with fail
    refine (awake3_any _).mono ?_
    rintro e w1 ⟨rfl, q⟩
    go_wp2_with fail
    refine (write_yes _ (ht.below q) q.size h3).mono ?_
    rintro e w2 ⟨ax, kx, cx, rfl, hF⟩
    have rx := hF.rd
    replace q := q.trans (hF.1.mono q.size)
    clear hF
    go_wp2_with fail
    refine (refWrite_yes _ (ht.below q) q.size h3).mono ?_
    rintro e w3 ⟨ay, ky, cy, rfl, hF⟩
    have ry := hF.rd
    replace rx := rx.later hF.1
    replace q := q.trans (hF.1.mono q.size)
    clear hF
    go_wp2_with fail
    refine (read_any _ (hs.below q) q.size).mono ?_
    rintro e w4 ⟨ap, kp, cp, rfl, rp, hb⟩
    replace rx := rx.later hb
    replace ry := ry.later hb
    replace q := q.trans (hb.mono q.size)
    clear hb
    go_wp2_with fail
    refine (refRead_any _ (hs.below q) q.size hb1).mono ?_
    rintro e w5 ⟨aq, kq, cq, rfl, hF⟩
    have rq := hF.rd
    replace rx := rx.later hF.1
    replace ry := ry.later hF.1
    replace rp := rp.later hF.1
    replace q := q.trans (hF.1.mono q.size)
    clear hF
    go_wp2_with fail
    refine (all_any _ (hs.below q) q.size hb1).mono ?_
    rintro e w6 ⟨al, cl, rfl, hO, hb⟩
    have rl := hO.rows
    replace rx := rx.later hb
    replace ry := ry.later hb
    replace rp := rp.later hb
    replace rq := rq.later hb
    replace q := q.trans (hb.mono q.size)
    clear hb hO
    go_wp2_with fail
    refine (refAll_any _ (hs.below q) q.size hb1).mono ?_
    rintro e w7 ⟨ak, ck, rfl, hO, hb⟩
    have rk := hO.rows
    have hb67 := hb
    replace rx := rx.later hb
    replace ry := ry.later hb
    replace rp := rp.later hb
    replace rq := rq.later hb
    replace q := q.trans (hb.mono q.size)
    clear hb hO
    go_wp2_with fail
    refine (same_any _ rl hb67 rk (Below.refl _ _)).mono ?_
    rintro e w8 ⟨rfl, hb⟩
    have hdd : decide (textsF bs = textsF bs) = true := by simp
    rw [hdd]
    replace rx := rx.later hb
    replace ry := ry.later hb
    replace rp := rp.later hb
    replace rq := rq.later hb
    replace q := q.trans (hb.mono q.size)
    clear hb hdd
    go_wp2_with (first
      | (refine wpList_conv byP rfl rfl rfl rx ?_)
      | (refine wpList_conv byP rfl rfl rfl ry ?_)
      | (refine wpList_conv byP rfl rfl rfl rp ?_)
      | (refine wpList_conv byP rfl rfl rfl rq ?_))
    go_ret
    exact ⟨rfl, q⟩
  · go_enter Try.func3, Try.ntmps3
    go_wp2_with fail
    refine (awake3_any _).mono ?_
    rintro e w1 ⟨rfl, q⟩
    go_wp2_with fail
    refine (write_no _ (ht.below q) q.size (by omega)).mono ?_
    rintro e w2 ⟨rfl, hb⟩
    replace q := q.trans (hb.mono q.size)
    clear hb
    go_wp2_with fail
    refine (refWrite_no _ (by omega) htm).mono ?_
    rintro e w3 ⟨rfl, rfl⟩
    go_wp2_with fail
    refine (read_any _ (hs.below q) q.size).mono ?_
    rintro e w4 ⟨ap, kp, cp, rfl, rp, hb⟩
    replace q := q.trans (hb.mono q.size)
    clear hb
    go_wp2_with fail
    refine (refRead_any _ (hs.below q) q.size hb1).mono ?_
    rintro e w5 ⟨aq, kq, cq, rfl, hF⟩
    have rq := hF.rd
    replace rp := rp.later hF.1
    replace q := q.trans (hF.1.mono q.size)
    clear hF
    go_wp2_with fail
    refine (all_any _ (hs.below q) q.size hb1).mono ?_
    rintro e w6 ⟨al, cl, rfl, hO, hb⟩
    have rl := hO.rows
    replace rp := rp.later hb
    replace rq := rq.later hb
    replace q := q.trans (hb.mono q.size)
    clear hb hO
    go_wp2_with fail
    refine (refAll_any _ (hs.below q) q.size hb1).mono ?_
    rintro e w7 ⟨ak, ck, rfl, hO, hb⟩
    have rk := hO.rows
    have hb67 := hb
    replace rp := rp.later hb
    replace rq := rq.later hb
    replace q := q.trans (hb.mono q.size)
    clear hb hO
    go_wp2_with fail
    refine (same_any _ rl hb67 rk (Below.refl _ _)).mono ?_
    rintro e w8 ⟨rfl, hb⟩
    have hdd : decide (textsF bs = textsF bs) = true := by simp
    rw [hdd]
    replace rp := rp.later hb
    replace rq := rq.later hb
    replace q := q.trans (hb.mono q.size)
    clear hb hdd
    have rn : Rd w8.heap.size w8 (.slice none 0 0) [] := Rd.nil _ _
    go_wp2_with (first
      | (refine wpList_conv byP rfl rfl rfl rp ?_)
      | (refine wpList_conv byP rfl rfl rfl rq ?_)
      | (refine wpList_conv byP rfl rfl rfl rn ?_))
    go_ret
    exact ⟨rfl, q⟩
end Go.Proofs.Ytppfedpocpadeaa
