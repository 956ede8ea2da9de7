/- Matching in plain words (stage 14): the reference's way, lot by lot, and order by order; they give the same. No conditions. -/
import Derived.Test.YtogmlbjbjgkdcaaDoorBkU
namespace Go.Proofs.YtogmlbjbjgkdcaaDoor

/-- Lots that change hands. -/
structure Fl where
  ask : Int
  bid : Int
  seller : Int
  buyer : Int
  price : Int
  lots : Int
deriving DecidableEq
/-- Does an order that comes meet one that stands on the other side? -/
def meetO (o x : Od) : Bool := if o.sell then decide (o.price ≤ x.price) else decide (x.price ≤ o.price)
def fillO (o x : Od) (n : Int) : Fl := if o.sell then ⟨o.id, x.id, o.tn, x.tn, x.price, n⟩ else ⟨x.id, o.id, x.tn, o.tn, x.price, n⟩
/-- One lot more: at the last fill, where that is of the same two orders. -/
def addF (out : List Fl) (f : Fl) : List Fl :=
  match out.getLast? with
  | none => [f]
  | some g => if g.ask = f.ask ∧ g.bid = f.bid then out.dropLast ++ [{ g with lots := g.lots + 1 }] else out ++ [f]
/-- The reference's matching: lot by lot. -/
def lotsR : Nat → RB → Od → List Fl → RB × Nat × List Fl
  | 0, b, _, out => (b, 0, out)
  | k + 1, b, o, out => match listR13 b.L (!o.sell) with
    | [] => (b, k + 1, out)
    | x :: _ => if meetO o x then lotsR k (cutR13 b x.id 1).1 o (addF out (fillO o x 1)) else (b, k + 1, out)
/-- Order by order. -/
def dealO : Nat → RB → Od → Nat → RB × Nat × List Fl
  | 0, b, _, k => (b, k, [])
  | f + 1, b, o, k => if k = 0 then (b, 0, []) else match listR13 b.L (!o.sell) with
    | [] => (b, k, [])
    | x :: _ => if meetO o x then
        let r := dealO f (cutR13 b x.id (min k x.lots.toNat : Nat)).1 o (k - min k x.lots.toNat)
        (r.1, r.2.1, fillO o x (min k x.lots.toNat : Nat) :: r.2.2)
      else (b, k, [])

/-- The best order of a side, and its place in the book. -/
theorem best_place {b : RB} (h : GB b) {sell : Bool} {x : Od} {L : List Od} (hl : listR13 b.L sell = x :: L) : ∃ p, CutO b p x ∧ x.sell = sell := by
  have hp := (listR13_is h.seq sell).2
  have hx : x ∈ b.L.filter fun z => z.sell == sell := hp.mem_iff.1 (by rw [hl]; exact List.mem_cons_self ..)
  obtain ⟨h1, h2⟩ := List.mem_filter.1 hx
  obtain ⟨p, hp⟩ := List.getElem?_of_mem h1
  exact ⟨p, ⟨h, hp⟩, by simpa using h2⟩
theorem best_left {b : RB} {p : Nat} {x : Od} (h : CutO b p x) {sell : Bool} {L : List Od} (hl : listR13 b.L sell = x :: L) {n : Int} (hn : n ≠ 0) : ∃ L', listR13 (bkC b p x n).L sell = { x with lots := n } :: L' := by
  rw [h.map hn]
  simp only
  rw [list_map h.gb.seq, hl, List.map_cons]
  exact ⟨L.map (atId x.id n), by rw [show atId x.id n x = { x with lots := n } from if_pos rfl]⟩
theorem meet_lots (o x : Od) (n : Int) : meetO o { x with lots := n } = meetO o x := rfl
theorem fill_lots (o x : Od) (n m : Int) : fillO o { x with lots := n } m = fillO o x m := rfl
/-- The order of the other side that a fill names. -/
def pidF (o : Od) (g : Fl) : Int := if o.sell then g.bid else g.ask
theorem pid_fill (o x : Od) (n : Int) : pidF o (fillO o x n) = x.id := by unfold pidF fillO; split <;> rfl
/-- The last fill is of an order that the book does not have on the other side. -/
def NewF (out : List Fl) (b : RB) (o : Od) : Prop := ∀ g, out.getLast? = some g → ∀ x ∈ b.L, x.sell = (!o.sell) → pidF o g ≠ x.id
theorem addF_new {out : List Fl} {o x : Od} (h : ∀ g, out.getLast? = some g → pidF o g ≠ x.id) : addF out (fillO o x 1) = out ++ [fillO o x 1] := by
  unfold addF
  cases hg : out.getLast? with
  | none => rw [List.getLast?_eq_none_iff.1 hg]; rfl
  | some g =>
    have := h g hg
    simp only
    refine if_neg fun e => this ?_
    have e2 := pid_fill o x 1
    rw [← e2]
    unfold pidF at *
    split
    · exact e.2
    · exact e.1
theorem addF_more (out : List Fl) (o x : Od) (j : Int) : addF (out ++ [fillO o x j]) (fillO o x 1) = out ++ [fillO o x (j + 1)] := by
  unfold addF
  rw [List.getLast?_concat]
  simp only
  have e : (fillO o x j).ask = (fillO o x 1).ask ∧ (fillO o x j).bid = (fillO o x 1).bid := by unfold fillO; split <;> exact ⟨rfl, rfl⟩
  rw [if_pos e, List.dropLast_concat]
  congr 1
  unfold fillO; split <;> rfl
/-- j lots of the best order are taken, i more come. -/
theorem lotsR_run {b : RB} {p : Nat} {x o : Od} (h : CutO b p x) {L : List Od} (hl : listR13 b.L (!o.sell) = x :: L) (hm : meetO o x = true) (out : List Fl) :
    ∀ (i j k : Nat), 1 ≤ j → (j : Int) + i ≤ x.lots → lotsR (k + i) (bkC b p x (x.lots - j)) o (out ++ [fillO o x j]) = lotsR k (bkC b p x (x.lots - (j + i : Nat))) o (out ++ [fillO o x (j + i : Nat)])
  | 0, j, k, _, _ => by rw [Nat.add_zero, Nat.add_zero]
  | i + 1, j, k, hj, hle => by
    have hlots := (h.gb.lots x (List.mem_of_getElem? h.place)).2
    obtain ⟨L', hl'⟩ := best_left h hl (n := x.lots - j) (by omega)
    rw [show k + (i + 1) = (k + i) + 1 by omega]
    rw [lotsR, hl']
    simp only
    rw [meet_lots o x (x.lots - j), if_pos hm, fill_lots o x (x.lots - j) 1, addF_more]
    have hc := h.cut (n := x.lots - j) (m := 1) (by omega) (by omega) (by omega)
    rw [hc]
    have e1 : x.lots - (j : Int) - 1 = x.lots - ((j + 1 : Nat) : Int) := by omega
    have e2 : (j : Int) + 1 = ((j + 1 : Nat) : Int) := by omega
    simp only
    rw [e1, e2, lotsR_run h hl hm out i (j + 1) k (by omega) (by omega)]
    rw [show j + 1 + i = j + (i + 1) by omega]
theorem bkC_mem {b : RB} {p : Nat} {x : Od} (h : CutO b p x) {z : Od} (hz : z ∈ (bkC b p x 0).L) : z ∈ b.L ∧ z.id ≠ x.id := by
  have hz' : z ∈ b.L.take p ++ b.L.drop (p + 1) := by unfold bkC at hz; rw [if_pos rfl] at hz; exact hz
  refine ⟨sub_of.subset hz', fun e => ?_⟩
  have hs := (h.self (n := 0) (by omega) (by omega)).2 rfl
  exact hs (pos_lt.2 ⟨z, hz, e⟩)
/-- The reference's way gives what order by order gives. -/
theorem lotsR_deal (o : Od) : ∀ (f : Nat) (b : RB) (k : Nat) (out : List Fl), GB b → b.L.length ≤ f → NewF out b o → lotsR k b o out = ((dealO f b o k).1, (dealO f b o k).2.1, out ++ (dealO f b o k).2.2)
  | 0, b, k, out, h, hf, _ => by
    have hL : b.L = [] := List.eq_nil_of_length_eq_zero (by omega)
    have hl : listR13 b.L (!o.sell) = [] := by rw [hL]; rfl
    cases k with
    | zero => simp [lotsR, dealO]
    | succ k => rw [lotsR, hl]; simp [dealO]
  | f + 1, b, k, out, h, hf, hn => by
    cases k with
    | zero => simp [lotsR, dealO]
    | succ k =>
      rw [lotsR, dealO, if_neg (by omega)]
      cases hl : listR13 b.L (!o.sell) with
      | nil => simp
      | cons x L =>
        simp only
        by_cases hm : meetO o x = true
        · rw [if_pos hm, if_pos hm]
          obtain ⟨p, hc, hs⟩ := best_place h hl
          have hlots := h.lots x (List.mem_of_getElem? hc.place)
          obtain ⟨m, hmm⟩ : ∃ m, min (k + 1) x.lots.toNat = m + 1 := ⟨min (k + 1) x.lots.toNat - 1, by omega⟩
          have e0 : addF out (fillO o x 1) = out ++ [fillO o x ((1 : Nat) : Int)] := addF_new fun g hg => hn g hg x (List.mem_of_getElem? hc.place) hs
          have c1 : cutR13 b x.id 1 = (bkC b p x (x.lots - 1), 0) := by
            have := hc.cut (n := x.lots) (m := 1) (by omega) (by omega) hlots.2
            rwa [hc.start] at this
          have cm : cutR13 b x.id ((m + 1 : Nat) : Int) = (bkC b p x (x.lots - ((m + 1 : Nat) : Int)), 0) := by
            have := hc.cut (n := x.lots) (m := ((m + 1 : Nat) : Int)) (by omega) (by omega) hlots.2
            rwa [hc.start] at this
          have hrun := lotsR_run hc hl hm out m 1 (k - m) (Nat.le_refl _) (by omega)
          rw [show k - m + m = k by omega, show 1 + m = m + 1 by omega] at hrun
          rw [hmm, e0, c1, cm]
          simp only
          rw [show x.lots - 1 = x.lots - ((1 : Nat) : Int) by omega, hrun, show k + 1 - (m + 1) = k - m by omega]
          have hG2 := hc.good (x.lots - ((m + 1 : Nat) : Int)) (by omega) (by omega)
          by_cases hz : x.lots - ((m + 1 : Nat) : Int) = 0
          · rw [hz] at hG2 ⊢
            have hlen := (hc.size 0).2 rfl
            have hn2 : NewF (out ++ [fillO o x ((m + 1 : Nat) : Int)]) (bkC b p x 0) o := fun g hg z hzm _ => by
              rw [List.getLast?_concat] at hg
              obtain rfl := Option.some.inj hg
              rw [pid_fill]
              exact fun e => (bkC_mem hc hzm).2 e.symm
            rw [lotsR_deal o f _ (k - m) _ hG2 (by omega) hn2]
            simp
          · have hk : k - m = 0 := by omega
            rw [hk]
            cases f with
            | zero => simp [lotsR, dealO]
            | succ f => simp [lotsR, dealO]
        · rw [if_neg hm, if_neg hm]; simp
end Go.Proofs.YtogmlbjbjgkdcaaDoor
