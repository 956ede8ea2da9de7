/- JobExact: the start: a new table, the reference's box. No conditions. -/
import Derived.Test.YtbfbhlpibclccaaDoorJxK
namespace Go.Proofs.YtbfbhlpibclccaaDoor
open Go Go.RowKit Go.Maps

/-- The reference's table, new beside the program's. -/
theorem JX.toJY {w0 w : World} {q : Nat} {L : List JE} {K : World → Prop} (h : JX w0 w q L K) : JY w0 (w.alloc (.cells #[.slice none 0 0] 29)) q w.heap.size L [] K := by
  obtain ⟨P, h⟩ := h
  have hb : Below w.heap.size w (w.alloc (.cells #[.slice none 0 0] 29)) := (Below.refl _ _).alloc (Nat.le_refl _) _
  refine ⟨P, fun k => k = w.heap.size, h.book.on hb, h.below.trans (hb.mono h.below.size), h.low, ⟨.slice none 0 0, ⟨heap_alloc_new _ _, OwnE.nil _ _ _, GJ.nil⟩, fun k hk => ?_, fun k hk => ?_⟩, fun k hp hq => ?_, fun k hk => ?_, h.k.chp (ChP.of_below hb) fun i hi => ?_⟩
  · rcases hk with hk | hk
    · exact hk
    · cases hk
  · subst hk; simp
  · subst hq; exact h.fresh (Nat.le_refl _) hp
  · subst hk; exact h.below.size
  · rcases hi with hi | hi
    · exact .inl hi
    · exact .inr (by omega)
end Go.Proofs.YtbfbhlpibclccaaDoor
