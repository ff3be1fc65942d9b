/-
  A PACKAGE-LEVEL TABLE OF ROWS OF BOOLS THAT IS LISTED BY A ROW: its cells. Over whatever program; no condition beyond each theorem's own.
-/
import Derived.LaidLaws
import Derived.ChangeArms
import Derived.OpenShut
import Derived.MakeChecks
namespace Go.Proofs.YtdjnpnbobedgoaaDoor
section
variable {H : Type} {enc : TypeId × Value → H} {P : Program} {w : World} {base : Nat} {sp : Nat → Bool} {held : Bool} {fuel : Nat}
/-- Rows of bools, as a row lists them. -/
def matB {H : Type} (rows : List (List Bool)) : DataW H := .agg (rows.map fun r => .agg (r.map fun b => .lit (.bool b)))
theorem cells_mat {t e b : TypeId} {n m : Nat} {cs : List Value} {rows : List (List Bool)} {p : List MemPlace} (ht : P.underlying t = some (.array n e)) (he : P.underlying e = some (.array m b)) (hb : P.underlying b = some .bool)
    (cb : P.cellsOf b = 1) (ce : P.cellsOf e = m) (h : DataW.trod enc P w base sp held fuel t cs = some (matB rows, p)) {i : Nat} {r : List Bool} (hi : rows[i]? = some r) {j : Nat} {v : Bool} (hj : r[j]? = some v) : cs[i * m + j]? = some (.bool v) := by
  obtain ⟨xs, f1, rfl, hx, _, hn, hel⟩ := DataW.trod_array ht h
  have hxs : rows.map (fun r => (.agg (r.map fun b => .lit (.bool b)) : DataW H)) = xs.map (·.1) := by
    have := congrArg Prod.fst hx
    simpa [matB] using this
  have h1 : (xs.map (·.1))[i]? = some (.agg (r.map fun b => .lit (.bool b)) : DataW H) := by rw [← hxs]; simp [hi]
  simp only [List.getElem?_map, Option.map_eq_some_iff] at h1
  obtain ⟨x, hxi, hx1⟩ := h1
  have hin : i < n := by have := (List.getElem?_eq_some_iff.1 hxi).1; omega
  have h2 := hel i hin
  rw [hxi, ce] at h2
  obtain ⟨ys, f2, rfl, hy, _, hm, hel2⟩ := DataW.trod_array he h2
  have hys : r.map (fun b => (.lit (.bool b) : DataW H)) = ys.map (·.1) := by
    rw [hy] at hx1
    simpa using hx1.symm
  have h3 : (ys.map (·.1))[j]? = some (.lit (.bool v) : DataW H) := by rw [← hys]; simp [hj]
  simp only [List.getElem?_map, Option.map_eq_some_iff] at h3
  obtain ⟨y, hyj, hy1⟩ := h3
  have hjm : j < m := by have := (List.getElem?_eq_some_iff.1 hyj).1; omega
  have h4 := hel2 j hjm
  rw [hyj, cb] at h4
  obtain ⟨b2, hc, rfl⟩ := DataW.trod_bool hb h4
  obtain rfl : b2 = v := by simpa using hy1
  have := congrArg (·[0]?) hc
  simpa [List.getElem?_take, List.getElem?_drop, hjm, Nat.add_comm] using this
end
/-- From a row's condition to the table's cells: the table stands first on the list. -/
theorem mat_of_laid {P : Program} {W : World} {name : String} {rows : List (List Bool)} {rest : List (String × DataW Unit)} {g : Nat} {t e b : TypeId} {n m : Nat} (hg : P.globalNamed name = some g) (hty : (P.globals[g]?).map (·.type) = some t)
    (ht : P.underlying t = some (.array n e)) (he : P.underlying e = some (.array m b)) (hb : P.underlying b = some .bool) (cb : P.cellsOf b = 1) (ce : P.cellsOf e = m) (h : laidMet P ((name, matB rows) :: rest) W)
    {i : Nat} {r : List Bool} (hi : rows[i]? = some r) {j : Nat} {v : Bool} (hj : r[j]? = some v) : W.cell? ⟨g, i * m + j, none⟩ = some (.bool v) := by
  obtain ⟨ps, ⟨g', t', cs, fuel, p, q, hg', ht', hvar, hd, _, _⟩, _⟩ := h
  obtain rfl := Option.some.inj (hg.symm.trans hg')
  obtain rfl := Option.some.inj (hty.symm.trans ht')
  have := World.var?_cell hg hvar (i * m + j)
  have hc := cells_mat ht he hb cb ce hd hi hj
  rw [this]
  simpa using hc
end Go.Proofs.YtdjnpnbobedgoaaDoor
