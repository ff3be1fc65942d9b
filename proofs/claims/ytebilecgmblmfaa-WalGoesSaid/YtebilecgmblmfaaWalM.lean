/-
  PLAIN MATHEMATICS: logs: what may be, what an append, a sync, a crash, a trim make of one, and its texts. No program is named here; no condition beyond each theorem's own.
-/
import Derived.Test.YtebilecgmblmfaaFrmM
namespace Go.Proofs.Ytebilecgmblmfaa

/-- A log that may be. -/
def okL (bs : List UInt8) (s : Int) : Prop := bs.length ≤ 20000 ∧ 0 ≤ s ∧ s ≤ (bs.length : Int)
instance (bs : List UInt8) (s : Int) : Decidable (okL bs s) := by unfold okL; infer_instance
/-- A text that is too long among these. -/
def longT (ts : List (List UInt8)) : Prop := ∃ t ∈ ts, 2000 < t.length
instance (ts : List (List UInt8)) : Decidable (longT ts) := by unfold longT; infer_instance
theorem longT_not {ts : List (List UInt8)} (h : ¬ longT ts) : ∀ t ∈ ts, t.length ≤ 2000 := fun t ht => by
  rcases Nat.lt_or_ge 2000 t.length with h2 | h2
  · exact absurd ⟨t, ht, h2⟩ h
  · exact h2
/-- An append: the log, and the error. -/
def appS (bs : List UInt8) (s : Int) (ts : List (List UInt8)) : List UInt8 × Nat :=
  if okL bs s then if longT ts then (bs, 30) else if 20000 < (bs ++ framesB ts).length then (bs, 40) else (bs ++ framesB ts, 0) else (bs, 1)
theorem appS_arg {bs : List UInt8} {s : Int} {ts : List (List UInt8)} (h : ¬ okL bs s) : appS bs s ts = (bs, 1) := by simp [appS, h]
theorem appS_long {bs : List UInt8} {s : Int} {ts : List (List UInt8)} (h : okL bs s) (h2 : longT ts) : appS bs s ts = (bs, 30) := by simp [appS, h, h2]
theorem appS_full {bs : List UInt8} {s : Int} {ts : List (List UInt8)} (h : okL bs s) (h2 : ¬ longT ts) (h3 : 20000 < (bs ++ framesB ts).length) : appS bs s ts = (bs, 40) := by simp only [appS, if_pos h, if_neg h2, if_pos h3]
theorem appS_ok {bs : List UInt8} {s : Int} {ts : List (List UInt8)} (h : okL bs s) (h2 : ¬ longT ts) (h3 : ¬ 20000 < (bs ++ framesB ts).length) : appS bs s ts = (bs ++ framesB ts, 0) := by simp only [appS, if_pos h, if_neg h2, if_neg h3]
/-- How many bytes are synced behind a sync. -/
def syncN (bs : List UInt8) (s : Int) : Int := if okL bs s then (bs.length : Int) else s
/-- How many bytes a crash leaves. -/
def keepN (bs : List UInt8) (s keep : Int) : Nat := (if s < keep then min keep (bs.length : Int) else s).toNat
theorem keepN_le {bs : List UInt8} {s keep : Int} (h : okL bs s) : keepN bs s keep ≤ bs.length ∧ s ≤ (keepN bs s keep : Int) ∧ (keepN bs s keep : Int) = if s < keep then min keep (bs.length : Int) else s := by
  obtain ⟨h1, h2, h3⟩ := h
  unfold keepN
  split <;> omega
def crashB (bs : List UInt8) (s keep : Int) : List UInt8 := if okL bs s then bs.take (keepN bs s keep) else bs
def crashN (bs : List UInt8) (s keep : Int) : Int := if okL bs s then (keepN bs s keep : Int) else s
/-- How many bytes a log's whole frames have. -/
def wholeN (bs : List UInt8) : Nat := (framesB (textsF bs)).length
def trimB (bs : List UInt8) (s : Int) : List UInt8 := if okL bs s then bs.take (wholeN bs) else bs
def trimN (bs : List UInt8) (s : Int) : Int := if okL bs s then min s (wholeN bs : Int) else s
/-- A log's texts. -/
def textsS (bs : List UInt8) (s : Int) : List (List UInt8) := if okL bs s then textsF bs else []

theorem trimB_eq {bs : List UInt8} {s : Int} (h : okL bs s) : trimB bs s = framesB (textsF bs) ∧ trimN bs s = min s ((framesB (textsF bs)).length : Int) := by
  unfold trimB trimN wholeN
  rw [if_pos h, if_pos h]
  exact ⟨(textsF_take bs).1.symm, rfl⟩
theorem textsF_framesT (bs : List UInt8) : textsF (framesB (textsF bs)) = textsF bs := by
  have := textsF_frames (textsF bs) [] (textsF_le bs)
  rwa [List.append_nil, textsF_none readF_nil, List.append_nil] at this
theorem trim_ok {bs : List UInt8} {s : Int} (h : okL bs s) : okL (trimB bs s) (trimN bs s) := by
  have e := trimB_eq h
  have hl := (textsF_take bs).2
  obtain ⟨h1, h2, h3⟩ := h
  rw [e.1, e.2]
  exact ⟨by omega, by omega, by omega⟩
theorem trim_trim {bs : List UInt8} {s : Int} (h : okL bs s) : trimB (trimB bs s) (trimN bs s) = trimB bs s ∧ trimN (trimB bs s) (trimN bs s) = trimN bs s := by
  have e := trimB_eq (trim_ok h)
  have e2 := trimB_eq h
  have et : textsF (trimB bs s) = textsF bs := by rw [e2.1, textsF_framesT]
  rw [e.1, e.2, et, e2.1, e2.2]
  exact ⟨rfl, by omega⟩
theorem trim_texts {bs : List UInt8} {s : Int} (h : okL bs s) : textsS (trimB bs s) (trimN bs s) = textsF bs ∧ textsS bs s = textsF bs := by
  have e2 := trimB_eq h
  unfold textsS
  rw [if_pos (trim_ok h), if_pos h, e2.1, textsF_framesT]
  exact ⟨rfl, rfl⟩
theorem sync_ok {bs : List UInt8} {s : Int} (h : okL bs s) : syncN bs s = (bs.length : Int) ∧ okL bs (bs.length : Int) := by
  unfold syncN
  rw [if_pos h]
  exact ⟨rfl, h.1, by omega, by omega⟩
theorem crash_all {bs : List UInt8} (keep : Int) (h : okL bs (bs.length : Int)) : crashB bs (bs.length : Int) keep = bs ∧ crashN bs (bs.length : Int) keep = (bs.length : Int) := by
  have e := keepN_le (keep := keep) h
  have e2 : keepN bs (bs.length : Int) keep = bs.length := by omega
  unfold crashB crashN
  rw [if_pos h, if_pos h, e2, List.take_length]
  exact ⟨rfl, rfl⟩
theorem trim_len {bs : List UInt8} {s : Int} (h : okL bs s) : (trimB bs s).length ≤ bs.length := by
  rw [(trimB_eq h).1]; exact (textsF_take bs).2
theorem frameB_small {t : List UInt8} (h : t.length < 128) : (frameB t).length = t.length + 5 := by
  rw [frameB_len, numB_lt h]; simp; omega
theorem framesB_small (l : List (List UInt8)) (m : Nat) (hm : m < 128) (h : ∀ t ∈ l, t.length ≤ m) : (framesB l).length ≤ (m + 5) * l.length := by
  induction l with
  | nil => simp [framesB]
  | cons t l ih =>
    rw [framesB_cons, List.length_append, List.length_cons]
    have h1 := h t (by simp)
    have h2 := frameB_small (t := t) (by omega)
    have h3 := ih (fun t ht => h t (by simp [ht]))
    rw [Nat.mul_add]
    omega
theorem longT_none {l : List (List UInt8)} {m : Nat} (hm : m ≤ 2000) (h : ∀ t ∈ l, t.length ≤ m) : ¬ longT l := fun ⟨t, h1, h2⟩ => by have := h t h1; omega
/-- Behind whole frames: those, and then the texts that are put. -/
theorem textsF_two (l k : List (List UInt8)) (hl : ∀ t ∈ l, t.length ≤ 2000) (hk : ∀ t ∈ k, t.length ≤ 2000) : textsF (framesB l ++ framesB k) = l ++ k := by
  rw [textsF_frames l _ hl]
  have := textsF_frames k [] hk
  rw [List.append_nil, textsF_none readF_nil, List.append_nil] at this
  rw [this]
theorem app_fits {bs : List UInt8} {s : Int} {tss : List (List UInt8)} (h : okL bs s) (hb : bs.length ≤ 2000) (ht : ∀ t ∈ tss, t.length ≤ 100) (hn : tss.length ≤ 20) :
    appS (trimB bs s) (trimN bs s) tss = (trimB bs s ++ framesB tss, 0) ∧ okL (trimB bs s ++ framesB tss) (trimN bs s) ∧ textsS (trimB bs s ++ framesB tss) (trimN bs s) = textsF bs ++ tss := by
  have h1 := trim_ok h
  have h2 := trim_len h
  have h3 := framesB_small tss 100 (by omega) ht
  have h4 : (trimB bs s ++ framesB tss).length ≤ 20000 := by rw [List.length_append]; omega
  have h5 : okL (trimB bs s ++ framesB tss) (trimN bs s) := ⟨h4, h1.2.1, by have := h1.2.2; rw [List.length_append]; omega⟩
  refine ⟨appS_ok h1 (longT_none (by omega) ht) (by omega), h5, ?_⟩
  unfold textsS
  rw [if_pos h5, (trimB_eq h).1, textsF_two _ _ (textsF_le bs) (fun t h => by have := ht t h; omega)]
end Go.Proofs.Ytebilecgmblmfaa
