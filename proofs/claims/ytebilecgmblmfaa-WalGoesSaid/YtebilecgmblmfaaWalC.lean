/-
  WHAT THE LAWS' WALKS TAKE OF wal's FUNCTIONS: a premise that each landed program's own walks must meet ('walC').
-/
import Derived.WalkKit
import Derived.Test.YtebilecgmblmfaaProg
import Derived.Test.YtebilecgmblmfaaByte
import Derived.Test.YtebilecgmblmfaaMat
import Derived.Test.YtebilecgmblmfaaWalM
import Derived.Test.YtebilecgmblmfaaWalR
import Derived.Test.YtebilecgmblmfaaWalS
namespace Go.Proofs.Ytebilecgmblmfaa
open Go.RowKit
/-- A whole number of 64 bits. -/
def I64 (s : Int) : Prop := -9223372036854775808 ≤ s ∧ s ≤ 9223372036854775807
/-- The contracts of wal's functions. -/
structure WalC : Prop where
  awake : ∀ (w : World), Calls Try.prog 9 #[] w fun e w' => e = .returned (.bool true) ∧ Below w.heap.size w w'
  check : ∀ (w : World) {B : Nat} {a : Option Addr} {n c : Nat} {bs : List UInt8} {s : Int}, Rd B w (.slice a n c) bs → B ≤ w.heap.size → bs.length ≤ 1000000 → I64 s →
    Calls Try.prog 23 #[.agg #[.slice a n c, .int .i64 s]] w fun e w' => e = .returned (.bool (decide (okL bs s))) ∧ Below w.heap.size w w'
  sync : ∀ (w : World) {B : Nat} {a : Option Addr} {n c : Nat} {bs : List UInt8} {s : Int}, Rd B w (.slice a n c) bs → B ≤ w.heap.size → bs.length ≤ 1000000 → I64 s →
    Calls Try.prog 14 #[.agg #[.slice a n c, .int .i64 s]] w (LogEnd w bs (syncN bs s))
  crash : ∀ (w : World) {B : Nat} {a : Option Addr} {n c : Nat} {bs : List UInt8} {s keep : Int}, Rd B w (.slice a n c) bs → B ≤ w.heap.size → bs.length ≤ 1000000 → I64 s → I64 keep →
    Calls Try.prog 16 #[.agg #[.slice a n c, .int .i64 s], .int .i64 keep] w (LogEnd w (crashB bs s keep) (crashN bs s keep))
  trim : ∀ (w : World) {B : Nat} {a : Option Addr} {n c : Nat} {bs : List UInt8} {s : Int}, Rd B w (.slice a n c) bs → B ≤ w.heap.size → bs.length ≤ 1000000 → I64 s →
    Calls Try.prog 18 #[.agg #[.slice a n c, .int .i64 s]] w (LogEnd w (trimB bs s) (trimN bs s))
  texts : ∀ (w : World) {B : Nat} {a : Option Addr} {n c : Nat} {bs : List UInt8} {s : Int}, Rd B w (.slice a n c) bs → B ≤ w.heap.size → bs.length ≤ 1000000 → I64 s →
    Calls Try.prog 21 #[.agg #[.slice a n c, .int .i64 s]] w (TextsEnd w bs s)
  app : ∀ (w : World) {B : Nat} {a : Option Addr} {n c : Nat} {bs : List UInt8} {s : Int}, Rd B w (.slice a n c) bs → B ≤ w.heap.size → bs.length ≤ 1000000 → I64 s →
    ∀ {w0 : World} {a2 : Option Addr} {n2 c2 : Nat} {tss : List (List UInt8)}, RdRows w0 (.slice a2 n2 c2) tss → Below w0.heap.size w0 w → tss.length ≤ 100 →
    Calls Try.prog 11 #[.agg #[.slice a n c, .int .i64 s], .slice a2 n2 c2] w (AppEnd w bs s tss)
theorem okL.i64 {bs : List UInt8} {s : Int} (h : okL bs s) : I64 s := by obtain ⟨h1, h2, h3⟩ := h; exact ⟨by omega, by omega⟩
end Go.Proofs.Ytebilecgmblmfaa
