/-
  PLAIN MATHEMATICS: a log whose bytes are the frames of texts, of which the first ones are synced: what an append, a sync, a crash and a trim behind it leave. No program is named here; no condition beyond each theorem's own.
-/
import Derived.Test.YtebilecgmblmfaaWalM
namespace Go.Proofs.Ytebilecgmblmfaa
/-- How many bytes the frames of the first i texts have. -/
def fB (l : List (List UInt8)) (i : Nat) : Nat := (framesB (l.take i)).length
theorem fB_zero (l : List (List UInt8)) : fB l 0 = 0 := by simp [fB, framesB]
theorem fB_all (l : List (List UInt8)) : fB l l.length = (framesB l).length := by simp [fB]
theorem fB_succ (l : List (List UInt8)) {i : Nat} (h : i < l.length) : fB l (i + 1) = fB l i + (frameB l[i]).length := by
  unfold fB
  rw [List.take_succ_eq_append_getElem h, framesB_append, List.length_append]
  simp [framesB]
theorem fB_step (l : List (List UInt8)) (i : Nat) : fB l i ≤ fB l (i + 1) := by
  rcases Nat.lt_or_ge i l.length with h | h
  · rw [fB_succ l h]; omega
  · unfold fB; rw [List.take_of_length_le h, List.take_of_length_le (by omega)]; exact Nat.le_refl _
theorem fB_mono (l : List (List UInt8)) {i j : Nat} (h : i ≤ j) : fB l i ≤ fB l j := by
  obtain ⟨d, rfl⟩ := Nat.le.dest h
  clear h
  induction d with
  | zero => exact Nat.le_refl _
  | succ d ih => exact Nat.le_trans ih (fB_step l (i + d))
theorem fB_take (l : List (List UInt8)) (i j : Nat) (h : i ≤ j) : fB (l.take j) i = fB l i := by
  unfold fB; rw [List.take_take, Nat.min_eq_left h]
theorem fB_append (l k : List (List UInt8)) (i : Nat) (h : i ≤ l.length) : fB (l ++ k) i = fB l i := by
  unfold fB; rw [List.take_append_of_le_length h]
theorem frameB_306 {t : List UInt8} (h : t.length ≤ 300) : (frameB t).length ≤ 310 := by
  rw [frameB_len]
  have := numB_len5 t.length (by omega)
  omega
theorem framesB_le310 (l : List (List UInt8)) (h : ∀ t ∈ l, t.length ≤ 300) : (framesB l).length ≤ 310 * l.length := by
  induction l with
  | nil => simp [framesB]
  | cons t l ih =>
    rw [framesB_cons, List.length_append, List.length_cons]
    have h1 := frameB_306 (h t (by simp))
    have h3 := ih (fun t ht => h t (by simp [ht]))
    omega
/-- Up to which text the frames are whole in the first m bytes. -/
theorem fB_find (l : List (List UInt8)) (m : Nat) : ∃ j, j ≤ l.length ∧ fB l j ≤ m ∧ (l.length ≤ j ∨ m < fB l (j + 1)) := by
  have key : ∀ d i, l.length - i ≤ d → i ≤ l.length → fB l i ≤ m → ∃ j, j ≤ l.length ∧ fB l j ≤ m ∧ (l.length ≤ j ∨ m < fB l (j + 1)) := by
    intro d
    induction d with
    | zero => intro i hd hi hm; exact ⟨i, hi, hm, .inl (by omega)⟩
    | succ d ih =>
      intro i hd hi hm
      rcases Nat.lt_or_ge m (fB l (i + 1)) with h | h
      · exact ⟨i, hi, hm, .inr h⟩
      · rcases Nat.lt_or_ge i l.length with h2 | h2
        · exact ih (i + 1) (by omega) (by omega) h
        · exact ⟨i, hi, hm, .inl h2⟩
  exact key _ 0 (Nat.le_refl _) (Nat.zero_le _) (by rw [fB_zero]; omega)
/-- A log: the frames of l, of which the first c are synced. -/
structure LogAt (l : List (List UInt8)) (c : Nat) (bs : List UInt8) (s : Int) : Prop where
  bytes : bs = framesB l
  cle : c ≤ l.length
  syn : s = (fB l c : Nat)
  small : ∀ t ∈ l, t.length ≤ 300
  few : l.length ≤ 30
theorem LogAt.ok {l : List (List UInt8)} {c : Nat} {bs : List UInt8} {s : Int} (h : LogAt l c bs s) : okL bs s := by
  obtain ⟨rfl, hc, rfl, h3, h4⟩ := h
  have h5 := framesB_le310 l h3
  have h6 := fB_mono l hc
  rw [fB_all] at h6
  exact ⟨by omega, by omega, by omega⟩
theorem LogAt.len {l : List (List UInt8)} {c : Nat} {bs : List UInt8} {s : Int} (h : LogAt l c bs s) : bs.length ≤ 9300 := by
  have h5 := framesB_le310 l h.small
  have := h.few
  rw [h.bytes]
  omega
theorem LogAt.nil : LogAt [] 0 [] 0 := ⟨rfl, Nat.le_refl _, by rw [fB_zero]; rfl, by simp, by simp⟩
theorem LogAt.le2000 {l : List (List UInt8)} {c : Nat} {bs : List UInt8} {s : Int} (h : LogAt l c bs s) : ∀ t ∈ l, t.length ≤ 2000 := fun t ht => by have := h.small t ht; omega
theorem LogAt.texts {l : List (List UInt8)} {c : Nat} {bs : List UInt8} {s : Int} (h : LogAt l c bs s) : textsS bs s = l := by
  unfold textsS
  rw [if_pos h.ok, h.bytes]
  have := textsF_frames l [] h.le2000
  rwa [List.append_nil, textsF_none readF_nil, List.append_nil] at this
theorem LogAt.app {l : List (List UInt8)} {c : Nat} {bs : List UInt8} {s : Int} (h : LogAt l c bs s) {t : List UInt8} (ht : t.length ≤ 300) : appS bs s [t] = (bs ++ framesB [t], 0) := by
  have h1 := framesB_le310 l h.small
  have h2 := framesB_le310 [t] (by simpa using ht)
  have h3 := h.few
  refine appS_ok h.ok ?_ ?_
  · rintro ⟨u, hu, hl⟩
    obtain rfl : u = t := by simpa using hu
    omega
  · rw [h.bytes, List.length_append]; simp only [List.length_cons, List.length_nil] at h2; omega
theorem LogAt.snoc {l : List (List UInt8)} {c : Nat} {bs : List UInt8} {s : Int} (h : LogAt l c bs s) {t : List UInt8} (ht : t.length ≤ 300) (hn : l.length ≤ 29) : LogAt (l ++ [t]) c (bs ++ framesB [t]) s :=
  ⟨by rw [h.bytes, framesB_append], by have := h.cle; rw [List.length_append]; omega, by rw [h.syn, fB_append _ _ _ h.cle], fun u hu => by
    rcases List.mem_append.1 hu with h5 | h5
    · exact h.small u h5
    · obtain rfl : u = t := by simpa using h5
      exact ht, by simp; omega⟩
theorem LogAt.sync {l : List (List UInt8)} {c : Nat} {bs : List UInt8} {s : Int} (h : LogAt l c bs s) : LogAt l l.length bs (syncN bs s) :=
  ⟨h.bytes, Nat.le_refl _, by rw [(sync_ok h.ok).1, fB_all, h.bytes], h.small, h.few⟩
theorem crash_ok {bs : List UInt8} {s keep : Int} (h : okL bs s) : okL (crashB bs s keep) (crashN bs s keep) := by
  have h2 := keepN_le (keep := keep) h
  obtain ⟨h3, h4, h5⟩ := h
  unfold crashB crashN
  rw [if_pos ⟨h3, h4, h5⟩, if_pos ⟨h3, h4, h5⟩]
  exact ⟨by rw [List.length_take]; omega, by omega, by rw [List.length_take]; omega⟩
/-- Behind a crash, trimmed: the first j texts, all of them synced. -/
theorem LogAt.crash {l : List (List UInt8)} {c : Nat} {bs : List UInt8} {s : Int} (h : LogAt l c bs s) (keep : Int) :
    ∃ j, c ≤ j ∧ j ≤ l.length ∧ LogAt (l.take j) j (trimB (crashB bs s keep) (crashN bs s keep)) (trimN (crashB bs s keep) (crashN bs s keep)) := by
  have hk := keepN_le (keep := keep) h.ok
  have hco := crash_ok (keep := keep) h.ok
  have e := trimB_eq hco
  have eB : crashB bs s keep = bs.take (keepN bs s keep) := by unfold crashB; rw [if_pos h.ok]
  have eN : crashN bs s keep = (keepN bs s keep : Int) := by unfold crashN; rw [if_pos h.ok]
  obtain ⟨j, hj1, hj2, hj3⟩ := fB_find l (keepN bs s keep)
  have et : textsF (crashB bs s keep) = l.take j := by
    rw [eB, h.bytes]
    have hj2' := hj2
    have hj3' := hj3
    rw [h.bytes] at hj2' hj3'
    exact textsF_cut l _ j h.le2000 hj2' hj3'
  have hcj : c ≤ j := by
    rcases hj3 with h3 | h3
    · have := h.cle; omega
    · rcases Nat.lt_or_ge j c with h4 | h4
      · have h5 := fB_mono l (show j + 1 ≤ c from h4)
        have h6 := h.syn
        have h7 := hk.2.1
        omega
      · exact h4
  refine ⟨j, hcj, hj1, ⟨by rw [e.1, et], by rw [List.length_take]; omega, ?_, fun t ht => h.small t (List.mem_of_mem_take ht), by have := h.few; rw [List.length_take]; omega⟩⟩
  rw [e.2, et, eN, fB_take _ _ _ (Nat.le_refl _)]
  have : (framesB (l.take j)).length = fB l j := rfl
  rw [this]
  omega
/-- A log all of which is synced: a crash leaves it, and so does a trim. -/
theorem LogAt.again {l : List (List UInt8)} {bs : List UInt8} {s : Int} (h : LogAt l l.length bs s) (keep : Int) : trimB (crashB bs s keep) (crashN bs s keep) = bs ∧ trimN (crashB bs s keep) (crashN bs s keep) = s := by
  have hs : s = (bs.length : Int) := by rw [h.syn, fB_all, h.bytes]
  have hok := h.ok
  have ht := h.texts
  subst hs
  have h1 := crash_all keep hok
  rw [h1.1, h1.2]
  have e := trimB_eq hok
  unfold textsS at ht
  rw [if_pos hok] at ht
  rw [e.1, e.2, ht, ← h.bytes]
  exact ⟨rfl, by omega⟩
theorem LogAt.i64 {l : List (List UInt8)} {c : Nat} {bs : List UInt8} {s : Int} (h : LogAt l c bs s) : -9223372036854775808 ≤ s ∧ s ≤ 9223372036854775807 := by
  obtain ⟨h1, h2, h3⟩ := h.ok
  exact ⟨by omega, by omega⟩
end Go.Proofs.Ytebilecgmblmfaa
