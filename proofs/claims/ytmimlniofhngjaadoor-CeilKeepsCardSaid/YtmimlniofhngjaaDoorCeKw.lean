/- The walk of the law CeilKeeps: whatever the vectors and the ratio, it returns true. Condition: the package variables lie as the program's text lays them. -/
import Derived.Test.YtmimlniofhngjaaDoorCeKf
import Derived.Test.YtmimlniofhngjaaDoorCeKn
namespace Go.Proofs.YtmimlniofhngjaaDoor
open Go Go.RowKit

theorem keeps_any (s : Nat → Addr) (i m c : V4) (n : Int) (w : World) (hs : Sent s w) (ht : ETy w) :
    Calls Tryd.prog 4 #[.agg #[.int .i64 i.a, .int .i64 i.b, .int .i64 i.c, .int .i64 i.d], .agg #[.int .i64 m.a, .int .i64 m.b, .int .i64 m.c, .int .i64 m.d], .agg #[.int .i64 c.a, .int .i64 c.b, .int .i64 c.c, .int .i64 c.d], .int .i64 n] w fun e w' => e = .returned (.bool true) ∧ Below w.heap.size w w' := by
  cases hi : goodV i
  · exact keeps_bad1 s i m c n w hs ht hi
  · cases hm : goodV m
    · exact keeps_bad2 s i m c n w hs ht hi hm
    · cases hc : goodV c
      · exact keeps_bad3 s i m c n w hs ht hi hm hc
      · by_cases h0 : n < 1
        · exact keeps_bad4 s i m c n w hs ht hi hm hc h0
        · by_cases h1 : 15 < n
          · exact keeps_bad5 s i m c n w hs ht hi hm hc (by omega) h1
          · rcases may_cases hi hm hc (ratB_iff.2 ⟨show 1 ≤ n by omega, by omega⟩) with h | ⟨h2, hl, h⟩ | ⟨h2, hf, h⟩
            · exact keeps_over s i m c n w hs ht hi hm hc (by omega) (by omega) h
            · exact keeps_flt s i m c n w hs ht hi hm hc (by omega) (by omega) h ((okN_first h2).trans (decide_eq_false (by omega)))
            · exact keeps_nil s i m c n w hs ht hi hm hc (by omega) (by omega) (by rw [h]) h2 hf ((okN_first h2).trans (decide_eq_true hf))
end Go.Proofs.YtmimlniofhngjaaDoor
