/-
  THE WALKS OF THE DOCUMENT's Write AND Read (frame). Slices of at most a million bytes.
-/
import Derived.WalkKit
import Derived.WalkSpells
import Derived.WalkLawsBesides
import Derived.Lib.Hide
import Derived.Deep.QuietTactic
import Derived.BigQuiet
import Derived.Test.YtebilecgmblmfaaProg
import Derived.Test.YtebilecgmblmfaaByte
import Derived.Test.YtebilecgmblmfaaAux
import Derived.Test.YtebilecgmblmfaaOctE
import Derived.Test.YtebilecgmblmfaaOctF
import Derived.Test.YtebilecgmblmfaaSumB
import Derived.Test.YtebilecgmblmfaaFrmC
namespace Go.Proofs.Ytebilecgmblmfaa
open Go.RowKit

set_option maxRecDepth 100000 in
set_option maxHeartbeats 1000000 in
theorem refWrite_no (w : World) {at' : Option Addr} {nt ct : Nat} (h : 2000 < nt) (h2 : nt ≤ 9223372036854775807) :
    Calls Try.prog 29 #[.slice at' nt ct] w fun e w' => e = .returned (.tuple #[.slice none 0 0, .int .i64 30]) ∧ w = w' := by
  have d1 : decide ((2000 : Int) < nt) = true := by simp; omega
  go_enter Try.func29, Try.ntmps29
  go_wp2
  go_ret2
  exact ⟨rfl, rfl⟩

set_option maxRecDepth 100000 in
set_option maxHeartbeats 1000000 in
theorem refWrite_yes (w : World) {B : Nat} {ad : Option Addr} {n c : Nat} {ts : List UInt8} (hr : Rd B w (.slice ad n c) ts) (hB : B ≤ w.heap.size) (hx : ts.length ≤ 2000) :
    Calls Try.prog 29 #[.slice ad n c] w fun e w' => ∃ ad' k c', e = .returned (.tuple #[.slice ad' k c', .int .i64 0]) ∧ Fresh 5 w w' (.slice ad' k c') (frameB ts) := by
  obtain ⟨rfl, hnc, hcm⟩ := hr.len
  have d1 : decide ((2000 : Int) < ts.length) = false := by simp; omega
  have ht := refText_yes w (Rd.nil B w) hr hB (by simp) (by omega)
  have hl := (textB_len ts (by omega)).1
  have hlt := (sumT_lt ts).1
  obtain ⟨s, hs⟩ : ∃ s, s = sumT ts := ⟨_, rfl⟩
  have hsum := fun (w' : World) (hr' : Rd B w' (.slice ad ts.length c) ts) => refSum_any w' B hr'
  rw [← hs] at hlt hsum
  have v0 : (s : Int) % 256 = ((UInt8.ofNat (sumT ts % 256)).toNat : Int) := by rw [toNat_ofNat_lt (by omega)]; omega
  have v1 : (s : Int) / 256 % 256 = ((UInt8.ofNat (sumT ts / 256 % 256)).toNat : Int) := by rw [toNat_ofNat_lt (by omega)]; omega
  have v2 : (s : Int) / 65536 % 256 = ((UInt8.ofNat (sumT ts / 65536 % 256)).toNat : Int) := by rw [toNat_ofNat_lt (by omega)]; omega
  have v3 : (s : Int) / 16777216 = ((UInt8.ofNat (sumT ts / 16777216 % 256)).toNat : Int) := by rw [toNat_ofNat_lt (by omega)]; omega
  have V0 := Lib.hid (congrArg (Value.int .u8) v0)
  have V1 := Lib.hid (congrArg (Value.int .u8) v1)
  have V2 := Lib.hid (congrArg (Value.int .u8) v2)
  have V3 := Lib.hid (congrArg (Value.int .u8) v3)
  clear v0 v1 v2 v3 hs
  go_enter Try.func29, Try.ntmps29
  go_wp2_with (first
    | (go_at_call 38; refine ht.mono ?_; rintro e w1 ⟨ad1, k1, c1, rfl, hF⟩)
    | (go_at_call 39; refine (hsum _ (hr.below (hF.1.mono hB))).mono ?_; rintro e w2 ⟨rfl, rfl⟩))
  clear d1 ht hsum
  rw [List.nil_append] at hF
  go_loopw [4, 7] (fun v i wr => ∃ (k : Nat) (ad2 : Option Addr) (k2 c2 : Nat), k ≤ 4 ∧ i = .int .i64 k ∧ v = .slice ad2 k2 c2 ∧ Own 5 w.heap.size wr (.slice ad2 k2 c2) (textB ts ++ (sumB ts).take k) ∧ Below w.heap.size w wr) (fun _ i _ => 4 - (intOf i).toNat)
  case atStart => exact ⟨0, ad1, k1, c1, by omega, rfl, rfl, by simpa using hF.2, hF.1⟩
  case round =>
    obtain ⟨k, ad2, k2, c2, hk, rfl, rfl, hO, hb⟩ := hrel
    rcases Nat.lt_or_ge k 4 with hlt4 | hge
    · have hl4 : (textB ts ++ (sumB ts).take k).length ≤ 1000000 := by rw [List.length_append, List.length_take]; omega
      obtain rfl | rfl | rfl | rfl : k = 0 ∨ k = 1 ∨ k = 2 ∨ k = 3 := by omega
      · go_wp2_with (refine wpList_append1 byP rfl (fun _ => rfl) rfl rfl (by simp) rfl (UInt8.ofNat (sumT ts % 256)) (fun _ => rfl) (by simp only [Act.eval]; exact V0.out) hO hb.size ?_ ?hlen; intro u ad3 k3 c3 w3 hO3 hb3)
        case hlen => omega
        rw [List.append_assoc] at hO3
        exact ⟨⟨1, ad3, k3, c3, by omega, rfl, rfl, hO3, hb.trans hb3⟩, by simp [intOf]⟩
      · go_wp2_with (refine wpList_append1 byP rfl (fun _ => rfl) rfl rfl (by simp) rfl (UInt8.ofNat (sumT ts / 256 % 256)) (fun _ => rfl) (by simp only [Act.eval]; exact V1.out) hO hb.size ?_ ?hlen; intro u ad3 k3 c3 w3 hO3 hb3)
        case hlen => omega
        rw [List.append_assoc] at hO3
        exact ⟨⟨2, ad3, k3, c3, by omega, rfl, rfl, hO3, hb.trans hb3⟩, by simp [intOf]⟩
      · go_wp2_with (refine wpList_append1 byP rfl (fun _ => rfl) rfl rfl (by simp) rfl (UInt8.ofNat (sumT ts / 65536 % 256)) (fun _ => rfl) (by simp only [Act.eval]; exact V2.out) hO hb.size ?_ ?hlen; intro u ad3 k3 c3 w3 hO3 hb3)
        case hlen => omega
        rw [List.append_assoc] at hO3
        exact ⟨⟨3, ad3, k3, c3, by omega, rfl, rfl, hO3, hb.trans hb3⟩, by simp [intOf]⟩
      · go_wp2_with (refine wpList_append1 byP rfl (fun _ => rfl) rfl rfl (by simp) rfl (UInt8.ofNat (sumT ts / 16777216 % 256)) (fun _ => rfl) (by simp only [Act.eval]; exact V3.out) hO hb.size ?_ ?hlen; intro u ad3 k3 c3 w3 hO3 hb3)
        case hlen => omega
        rw [List.append_assoc] at hO3
        exact ⟨⟨4, ad3, k3, c3, by omega, rfl, rfl, hO3, hb.trans hb3⟩, by simp [intOf]⟩
    · obtain rfl : k = 4 := by omega
      go_wp2
      go_ret2
      exact ⟨_, _, _, rfl, hb, hO⟩

theorem takeTextS_cases (xs : List UInt8) : takeTextS xs = ([], [], 10) ∨ ∃ t r, takeTextS xs = (t, r, 0) ∧ t.length ≤ xs.length := by
  unfold takeTextS
  rcases takeS_cases xs with h | ⟨n, rest, h, hr, _⟩
  · simp [h]
  · rw [h]
    by_cases hc : 65535 < n ∨ rest.length < n
    · left; simp [hc]
    · right; refine ⟨rest.take n, rest.drop n, by simp [hc], by simp; omega⟩
theorem readF_err {b : List UInt8} (h : takeTextS b = ([], [], 10)) : readF b = none := by
  rw [readF_none]
  rintro ts r hl rfl
  have e : takeTextS (frameB ts ++ r) = (ts, sumB ts ++ r, 0) := by
    unfold frameB; rw [List.append_assoc]; exact takeTextS_textB _ _ (by omega)
  rw [e] at h
  simp at h
theorem readF_long {b t r : List UInt8} (h : takeTextS b = (t, r, 0)) (hl : 2000 < t.length) : readF b = none := by
  unfold readF; rw [h]; simp; omega
theorem readF_by {b t r : List UInt8} (h : takeTextS b = (t, r, 0)) (hl : t.length ≤ 2000) : readF b = if frameB t = b.take (frameB t).length then some t else none := by
  unfold readF; rw [h]; simp [hl]

/-- What the document's Read hands back, in memory of its own. -/
def RefEnd (w : World) (xs : List UInt8) (e : Ending) (w' : World) : Prop :=
  ∃ ad k c, e = .returned (.tuple #[.slice ad k c, .int .i64 (sizeF xs : Nat), .int .i64 (errF xs : Nat)]) ∧ Fresh 5 w w' (.slice ad k c) (headF xs)
theorem RefEnd.no {w w' : World} {xs : List UInt8} (h : readF xs = none) (hb : Below w.heap.size w w') : RefEnd w xs (.returned (.tuple #[.slice none 0 0, .int .i64 0, .int .i64 30])) w' :=
  ⟨none, 0, 0, by rw [(headF_none h).2, errF_none h]; rfl, by rw [(headF_none h).1]; exact ⟨hb, Own.nil _ _ _⟩⟩
theorem Own.drewN {E : TypeId} {base : Nat} {w : World} {v : Value} {xs : List UInt8} (h : Own E base w v xs) (q : Nat) : Own E base (w.drewN q) v xs := let ⟨n, h⟩ := h; ⟨n, h⟩

set_option maxRecDepth 100000 in
set_option maxHeartbeats 1000000 in
theorem refRead_any (w : World) {B : Nat} {ad : Option Addr} {n c : Nat} {xs : List UInt8} (hr : Rd B w (.slice ad n c) xs) (hB : B ≤ w.heap.size) (hx : xs.length ≤ 1000000) :
    Calls Try.prog 41 #[.slice ad n c] w (RefEnd w xs) := by
  obtain ⟨rfl, hnc, hcm⟩ := hr.len
  have hf := refTakeText_any w hr hB hx
  unfold TextEnd at hf
  rcases takeTextS_cases xs with ht | ⟨t, rest, ht, htl⟩
  · have hno := Lib.hid (readF_err ht)
    rw [ht] at hf
    clear ht
    go_enter Try.func41, Try.ntmps41
    go_wp2_with (go_at_call 47; refine hf.mono ?_; rintro e w1 ⟨ad1, k1, c1, ad2, k2, c2, rfl, hF, hF2⟩)
    go_ret3
    exact RefEnd.no hno.out hF.1
  · by_cases hbig : 2000 < t.length
    · have hno := Lib.hid (readF_long ht hbig)
      rw [ht] at hf
      clear ht
      go_enter Try.func41, Try.ntmps41
      go_wp2_with (first
        | (go_at_call 47; refine hf.mono ?_; rintro e w1 ⟨ad1, k1, c1, ad2, k2, c2, rfl, hF, hF2⟩; obtain rfl := hF.len)
        | (go_at_call 29; refine (refWrite_no _ hbig (by omega)).mono ?_; rintro e w2 ⟨rfl, rfl⟩))
      go_quiet (fail)
      go_wp2
      go_ret3
      exact RefEnd.no hno.out (Below.drewN hF.1 _)
    · have hby := Lib.hid (readF_by ht (by omega))
      rw [ht] at hf
      clear ht
      have hw := fun (w' : World) (a' : Option Addr) (k' c' : Nat) (hr' : Rd w'.heap.size w' (.slice a' k' c') t) => refWrite_yes w' hr' (Nat.le_refl _) (by omega)
      by_cases hshort : xs.length < (frameB t).length
      · have hno : readF xs = none := by
          rw [hby.out, if_neg (fun e => by have := congrArg List.length e; rw [List.length_take] at this; omega)]
        have HN := Lib.hid hno
        have d1 : decide ((xs.length : Int) < (frameB t).length) = true := by simp; omega
        clear hno hby
        go_enter Try.func41, Try.ntmps41
        go_wp2_with (first
          | (go_at_call 47; refine hf.mono ?_; rintro e w1 ⟨ad1, k1, c1, ad2, k2, c2, rfl, hF, hF2⟩; obtain rfl := hF.len)
          | (go_at_call 29; refine (hw _ _ _ _ hF.rd).mono ?_; rintro e w2 ⟨ad3, k3, c3, rfl, hF3⟩; obtain rfl := hF3.len))
        go_quiet (fail)
        go_wp2
        go_ret3
        exact RefEnd.no HN.out (Below.drewN (hF.1.trans (hF3.1.mono hF.1.size)) _)
      · have d1 : decide ((xs.length : Int) < (frameB t).length) = false := by simp; omega
        have hfl := (frameB_le (ts := t) (by omega)).1
        have hr0 := hr
        rcases hr with ⟨_, _, hv, _⟩ | ⟨b, off, cap, hv, _, _, _, _⟩
        · exfalso; injection hv with _ h; omega
        cases hv
        go_enter Try.func41, Try.ntmps41
        go_wp2_with (first
          | (go_at_call 47; refine hf.mono ?_; rintro e w1 ⟨ad1, k1, c1, ad2, k2, c2, rfl, hF, hF2⟩; obtain rfl := hF.len)
          | (go_at_call 29; refine (hw _ _ _ _ hF.rd).mono ?_; rintro e w2 ⟨ad3, k3, c3, rfl, hF3⟩; obtain rfl := hF3.len))
        have hq := hF.1.trans (hF3.1.mono hF.1.size)
        have hcv1 : ∀ q, (convert 22 9 (.slice ad3 (frameB t).length c3)).run Try.prog (w2.drewN q) = .ok (.string (strOf (frameB t))) (w2.drewN q) := fun q => run_conv byP (hF3.rd.drewN q)
        have hrt := (hr0.below (hq.mono hB)).take (frameB t).length (by omega)
        have hrT := hF.2.below hF3.1
        by_cases heq : frameB t = xs.take (frameB t).length
        · have hyes : readF xs = some t := by rw [hby.out, if_pos heq]
          have HY := Lib.hid hyes
          rw [← heq] at hrt
          have hcv2 : ∀ q, (convert 22 9 (.slice (some ⟨b, off, none⟩) (frameB t).length c)).run Try.prog (w2.drewN q) = .ok (.string (strOf (frameB t))) (w2.drewN q) := fun q => run_conv byP (hrt.drewN q)
          clear heq hyes hby hF2
          go_quiet (fail)
          go_wp2
          go_ret3
          refine ⟨ad1, t.length, c1, ?_, Below.drewN hq _, ?_⟩
          · rw [(headF_some HY.out).2, errF_some HY.out]; rfl
          · rw [(headF_some HY.out).1]; exact Own.drewN hrT _
        · have hno : readF xs = none := by rw [hby.out, if_neg heq]
          have HN := Lib.hid hno
          have hcv2 : ∀ q, (convert 22 9 (.slice (some ⟨b, off, none⟩) (frameB t).length c)).run Try.prog (w2.drewN q) = .ok (.string (strOf (xs.take (frameB t).length))) (w2.drewN q) := fun q => run_conv byP (hrt.drewN q)
          have hne := strNe heq
          clear heq hno hby hF2
          go_quiet (fail)
          go_wp2
          go_ret3
          exact RefEnd.no HN.out (Below.drewN hq _)
end Go.Proofs.Ytebilecgmblmfaa
