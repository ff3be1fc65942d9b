/-
  VERSIONS AS A LAW's PARAMETERS, OPENED. No condition beyond each theorem's own.
-/
import Derived.WalkKit
import Derived.Test.YtemdcpajcaaphaaProg
import Derived.Test.YtemdcpajcaaphaaOpe
import Derived.Test.YtemdcpajcaaphaaVer
import Derived.Test.YtemdcpajcaaphaaVerX
namespace Go.Proofs.Ytemdcpajcaaphaa
open Go.ChangeShapes Go.WideShapes Go.ChangeAt Go.RowKit Go.Deep
theorem opens_ver : Opens Try.prog 25 Elt.ver := by
  intro H enc w base held fuel cs x h
  obtain ⟨y0, y1, y2, n, _, hl, h0, h1, h2⟩ := trod_struct3 Try.underlying25 h
  have hc : cs.length = 3 := hl.trans (by kernel_rfl)
  match cs, hc with
  | [u, v, r], _ =>
    obtain ⟨m, hm, _, hw⟩ := DataW.trod_int (by kernel_rfl : Try.prog.underlying 3 = some (.int .i64)) (h0 : DataW.trod enc Try.prog w base (fun _ => true) held n 3 [u] = some y0)
    obtain ⟨g, hg, _⟩ := DataW.trod_bool (by kernel_rfl : Try.prog.underlying 4 = some .bool) (h1 : DataW.trod enc Try.prog w base (fun _ => true) held n 4 [v] = some y1)
    obtain ⟨xs, v', hv, hR⟩ := Opens.bytes (P := Try.prog) (t := 23) (e := 5) (by kernel_rfl) (by kernel_rfl) (by kernel_rfl) (h2 : DataW.trod enc Try.prog w base (fun _ => true) held n 23 [r] = some y2)
    cases hm; cases hg; cases hv
    exact ⟨⟨m, g, xs⟩, r, rfl, hR, i64w hw⟩
theorem opens_vers : Opens Try.prog 22 (Elt.list Elt.ver) := Opens.list (by kernel_rfl) (by kernel_rfl) opens_ver
end Go.Proofs.Ytemdcpajcaaphaa
