/- A store's life with losses of power, step by step. Conditions: the sentinels lie as the program's text lays them; the store or its disk lies in memory; the disk has seen fewer than a million writes. -/
import Derived.Test.YtmfchjbpbfkgiaaGreatDoorShD
namespace Go.Proofs.YtmfchjbpbfkgiaaGreatDoor
open Go Go.RowKit

theorem lay_eight : ∀ {b : Nat} {rs : List (List UInt8)}, (∀ x ∈ rs, x.length ≤ 8) → (layR b rs).length = rs.length
  | _, [], _ => rfl
  | b, x :: r, h => by
    have h1 := lay_eight (b := b + 1) (rs := r) fun y hy => h y (by simp [hy])
    have h2 := h x (by simp)
    rw [layR, List.length_append, framesF_len, h1, List.length_cons]
    unfold nblk; omega
/-- A store of 80 blocks, 8 to a state, that has power; what it holds comes to S; c bounds its numbers, K its disk's writes. -/
structure AlS (wr : World) (B u q p g cap N nx : Nat) (T S : List UInt8) (v : Value) (rs : List (List UInt8)) (d : DS) (c K : Nat) : Prop where
  mem : StoMem wr B u q p g cap d 8 64 N (bst T) nx v rs false false
  area : AreaAt d 8 N nx T
  at_ : LogAt d (2 * 8) 64 N rs
  on : d.on = true
  n_ : d.n = 80
  wr_ : d.wr ≤ K
  sum : T ++ rs.flatten = S
  small : ∀ x ∈ rs, x.length ≤ 8
  cnt : N + rs.length ≤ c
  len : S.length ≤ 8 * c
/-- A disk of 80 blocks; what a store on it holds when it is opened comes to S. -/
def OfS (wr : World) (B p g cap : Nat) (S : List UInt8) (c K : Nat) (on : Bool) (d : DS) : Prop :=
  DiskAt wr p g cap d ∧ B ≤ g ∧ d.on = on ∧ d.n = 80 ∧ d.wr ≤ K ∧ ∃ N nx T rs, OpenAt d 8 64 N nx T rs ∧ T ++ rs.flatten = S ∧ (∀ x ∈ rs, x.length ≤ 8) ∧ N + rs.length ≤ c ∧ S.length ≤ 8 * c
theorem AlS.below {wr W : World} {B C u q p g cap N nx : Nat} {T S : List UInt8} {v : Value} {rs : List (List UInt8)} {d : DS} {c K : Nat} (h : AlS wr B u q p g cap N nx T S v rs d c K) (hb : Below C wr W) (hC : wr.heap.size ≤ C) : AlS W B u q p g cap N nx T S v rs d c K :=
  ⟨h.mem.below hb hC, h.area, h.at_, h.on, h.n_, h.wr_, h.sum, h.small, h.cnt, h.len⟩
theorem AlS.same {wr W : World} {B u q p g cap N nx : Nat} {T S : List UInt8} {v : Value} {rs : List (List UInt8)} {d : DS} {c K : Nat} (h : AlS wr B u q p g cap N nx T S v rs d c K) (hs : Same wr W) : AlS W B u q p g cap N nx T S v rs d c K :=
  ⟨h.mem.same hs, h.area, h.at_, h.on, h.n_, h.wr_, h.sum, h.small, h.cnt, h.len⟩
theorem AlS.le {wr : World} {B u q p g cap N nx : Nat} {T S : List UInt8} {v : Value} {rs : List (List UInt8)} {d : DS} {c K c' K' : Nat} (h : AlS wr B u q p g cap N nx T S v rs d c K) (hc : c ≤ c') (hK : K ≤ K') : AlS wr B u q p g cap N nx T S v rs d c' K' :=
  ⟨h.mem, h.area, h.at_, h.on, h.n_, Nat.le_trans h.wr_ hK, h.sum, h.small, Nat.le_trans h.cnt hc, by have := h.len; omega⟩
theorem OfS.below {wr W : World} {B C p g cap : Nat} {S : List UInt8} {c K : Nat} {on : Bool} {d : DS} (h : OfS wr B p g cap S c K on d) (hb : Below C wr W) (hC : wr.heap.size ≤ C) : OfS W B p g cap S c K on d :=
  ⟨h.1.below hb (by have := h.1.lt; omega), h.2⟩
theorem OfS.le {wr : World} {B p g cap : Nat} {S : List UInt8} {c K c' K' : Nat} {on : Bool} {d : DS} (h : OfS wr B p g cap S c K on d) (hc : c ≤ c') (hK : K ≤ K') : OfS wr B p g cap S c' K' on d := by
  obtain ⟨h1, h2, h3, h4, h5, N, nx, T, rs, h6, h7, h8, h9, h10⟩ := h
  exact ⟨h1, h2, h3, h4, Nat.le_trans h5 hK, N, nx, T, rs, h6, h7, h8, Nat.le_trans h9 hc, by omega⟩
theorem AlS.stb {wr : World} {B u q p g cap N nx : Nat} {T S : List UInt8} {v : Value} {rs : List (List UInt8)} {d : DS} {c K : Nat} (h : AlS wr B u q p g cap N nx T S v rs d c K) {W : World} (hc : ChgS (StoS u q p g v) wr W) : Below B wr W := by
  exact ⟨hc.os, hc.tape, hc.output, hc.size, fun k hk => by
    by_cases hk2 : k < wr.heap.size
    · exact hc.block k hk2 fun hS => by have := (h.mem.lts k hS).1; omega
    · exact absurd (Nat.lt_of_lt_of_le hk (Nat.le_of_lt (Nat.lt_of_le_of_lt h.mem.lo (by have := h.mem.uq; have := h.mem.log.lt; omega)))) hk2⟩

/-- All so far is kept as a state. -/
theorem al_keep (s : Nat → Addr) (w0 : World) (u q p g cap N nx : Nat) (T S : List UInt8) (v : Value) (rs : List (List UInt8)) (d : DS) (c K : Nat) (w : World) (hs : Sent s w0) (hb : Below w0.heap.size w0 w) (h : AlS w w0.heap.size u q p g cap N nx T S v rs d c K) (hc : c ≤ 50) (hK : K ≤ 100000) :
    Calls Tryz.prog 33 #[.pointer (some ⟨u, 0, none⟩), .string (bst S)] w fun e w' => Below w0.heap.size w0 w' ∧ ((e = .returned .nilIface ∧ ∃ N' nx' d', AlS w' w0.heap.size u q p g cap N' nx' S S (.slice none 0 0) [] d' (c + 1) (K + 110)) ∨
      (e = .returned (errV s 14) ∧ ∃ d', OfS w' w0.heap.size p g cap S (c + 1) (K + 110) false d')) := by
  have hlen := h.len
  have hcnt := h.cnt
  have hwr := h.wr_
  have hon := h.on
  have htorn := h.mem.log.disk.ok.torn
  have hbs : (bst S).size = S.length := bst_size S
  have hX : S.length ≤ 6000 := by omega
  have hnz : nblk S.length ≤ 8 := by unfold nblk; omega
  have hlo := h.mem.log.lo
  have hlow : ∀ w', ChgS (StoS u q p g v) w w' → Below w0.heap.size w0 w' := fun w' hc => hb.trans (h.stb hc)
  have hof : ∀ w' E, DiskAt w' p g cap E → d.Like E → E.on = false → E.wr ≤ d.wr + 2 * 8 + 64 → (OpenAt E 8 64 N nx T rs ∨ OpenAt E 8 64 (N + rs.length + 1) (8 - nx) S []) → OfS w' w0.heap.size p g cap S (c + 1) (K + 110) false E := fun w' E hd hl ho hw hop => by
    refine ⟨hd, hlo, ho, hl.n.trans h.n_, by omega, ?_⟩
    rcases hop with hop | hop
    · exact ⟨N, nx, T, rs, hop, h.sum, h.small, by omega, by omega⟩
    · exact ⟨_, _, S, [], hop, by simp, by simp, by simp only [List.length_nil]; omega, by omega⟩
  rcases keep_any (X := S) h.area h.at_ hX hnz (by omega) hon htorn with ⟨E, a1, hl, oE, wE, hop⟩ | ⟨e1, a1, o1, n1, w1, ⟨E, a2, hl, oE, wE, hop⟩ | ⟨e2, a2, o2, n2, w2, ⟨E, a3, hl, oE, wE, hop⟩ | ⟨E, a3, hl, oE, wE, hA, hat⟩⟩⟩
  · refine (skeep_down s w0 u q p g cap d E 8 64 N nx (bst T) (bst S) v rs w hs hb h.mem (by omega) (by rw [hbs]; exact hnz) (by omega) (fun gb x W2 hb2 hm2 hx hrow hgb => ?_)).mono ?_
    · exact replace_cut1 s w0 u q p g cap gb d E 8 64 N nx (bst T) v rs _ (N + rs.length + 1) x W2 hs hb2 hm2 hx (by omega) hrow hgb frames_64 (by rw [framesF_len]; exact hnz) h.area.side (by omega) hon (by omega) a1 hl.n oE
    · rintro e w' ⟨rfl, hd, hch⟩
      exact ⟨hlow w' hch, .inr ⟨rfl, E, hof w' E hd hl oE wE (.inl hop)⟩⟩
  · refine (skeep_down s w0 u q p g cap d E 8 64 N nx (bst T) (bst S) v rs w hs hb h.mem (by omega) (by rw [hbs]; exact hnz) (by omega) (fun gb x W2 hb2 hm2 hx hrow hgb => ?_)).mono ?_
    · exact replace_cut2 s w0 u q p g cap gb d e1 E 8 64 N nx (bst T) v rs _ (N + rs.length + 1) x W2 hs hb2 hm2 hx (by omega) hrow hgb frames_64 (by rw [framesF_len]; exact hnz) h.area.side (by omega) hon (by omega) a1 o1 n1 w1 a2 hl.n oE
    · rintro e w' ⟨rfl, hd, hch⟩
      exact ⟨hlow w' hch, .inr ⟨rfl, E, hof w' E hd hl oE wE hop⟩⟩
  · refine (skeep_down s w0 u q p g cap d E 8 64 N nx (bst T) (bst S) v rs w hs hb h.mem (by omega) (by rw [hbs]; exact hnz) (by omega) (fun gb x W2 hb2 hm2 hx hrow hgb => ?_)).mono ?_
    · exact replace_cut3 s w0 u q p g cap gb d e1 e2 E 8 64 N nx (bst T) v rs _ (N + rs.length + 1) x W2 hs hb2 hm2 hx (by omega) hrow hgb frames_64 (by rw [framesF_len]; exact hnz) h.area.side (by omega) hon (by omega) a1 o1 n1 w1 a2 o2 n2 w2 a3
    · rintro e w' ⟨rfl, hd, hch⟩
      exact ⟨hlow w' hch, .inr ⟨rfl, E, hof w' E hd hl oE wE (.inr hop)⟩⟩
  · refine (skeep_ok s w0 u q p g cap d e1 e2 E 8 64 N nx (bst T) (bst S) v rs w hs hb h.mem (by omega) (by rw [hbs]; exact hnz) (by omega) h.area.side hon (by omega) a1 o1 n1 w1 a2 o2 n2 w2 a3).mono ?_
    rintro e w' ⟨rfl, hm, hch⟩
    exact ⟨hlow w' hch, .inl ⟨rfl, N + rs.length + 1, 8 - nx, E, hm, hA, hat, oE, hl.n.trans h.n_, by omega, by simp, by simp, by simp only [List.length_nil]; omega, by omega⟩⟩

theorem puts_dead {d : DS} {i : Nat} {y : List UInt8} {l : List (List UInt8)} (hi : i < d.n) (hy : y.length = 64) (ho : d.on = true) (hf : d.fuse = 0) : (d.puts i (y :: l)).1 = 14 := by
  rw [puts_cons, write_cut hi hy ho hf]; rfl
theorem flat_snoc (T : List UInt8) (rs : List (List UInt8)) (x : List UInt8) : T ++ (rs ++ [x]).flatten = T ++ rs.flatten ++ x := by simp
/-- A record is added. -/
theorem al_add (s : Nat → Addr) (w0 : World) (u q p g cap N nx : Nat) (T S : List UInt8) (v : Value) (rs : List (List UInt8)) (d : DS) (c K : Nat) (X : ByteArray) (w : World) (hs : Sent s w0) (hb : Below w0.heap.size w0 w) (h : AlS w w0.heap.size u q p g cap N nx T S v rs d c K) (hX : X.size ≤ 8) (hc : c ≤ 50) (hK : K ≤ 100000) :
    Calls Tryz.prog 35 #[.pointer (some ⟨u, 0, none⟩), .string X] w fun e w' => Below w0.heap.size w0 w' ∧ ((e = .returned .nilIface ∧ ∃ v' d', AlS w' w0.heap.size u q p g cap N nx T (S ++ X.data.toList) v' (rs ++ [X.data.toList]) d' (c + 1) (K + 108)) ∨
      (e = .returned (errV s 14) ∧ ∃ d', OfS w' w0.heap.size p g cap S (c + 1) (K + 108) false d' ∨ d.torn ≠ 0 ∧ OfS w' w0.heap.size p g cap (S ++ X.data.toList) (c + 1) (K + 108) false d')) ∧ (d.fuse = 0 → e = .returned (errV s 14)) := by
  have hlen := h.len
  have hcnt := h.cnt
  have hwr := h.wr_
  have hon := h.on
  have htorn := h.mem.log.disk.ok.torn
  have hsl : X.data.toList.length = X.size := size_len X
  have hlay := lay_eight (b := N) h.small
  have hn1 : nblk X.size = 1 := by unfold nblk; omega
  have hlo := h.mem.log.lo
  have hlow : ∀ w', ChgS (StoS u q p g v) w w' → Below w0.heap.size w0 w' := fun w' hc => hb.trans (h.stb hc)
  have hsm : ∀ x ∈ rs ++ [X.data.toList], x.length ≤ 8 := fun x hx => by
    rcases List.mem_append.1 hx with h1 | h1
    · exact h.small x h1
    · rw [List.mem_singleton.1 h1]; omega
  have hroom : nblk X.size ≤ 64 - (layR N rs).length := by rw [hlay, hn1]; omega
  rcases add_any (X := X.data.toList) h.area h.at_ (by omega) (by rw [hsl]; exact hroom) (by omega) hon htorn with ⟨E, a1, hl, oE, wE, hop⟩ | ⟨E, a1, hl, oE, wE, hA, hat⟩
  · refine (sadd_down s w0 u q p g cap 8 64 N nx (bst T) X v rs d E w hs hb h.mem (by omega) hroom (by omega) hon (by omega) a1).mono ?_
    rintro e w' ⟨rfl, hd, hch⟩
    refine ⟨hlow w' hch, .inr ⟨rfl, E, ?_⟩, fun _ => rfl⟩
    rcases hop with hop | ⟨ht0, hop⟩
    · exact .inl ⟨hd, hlo, oE, hl.n.trans h.n_, by omega, N, nx, T, rs, hop, h.sum, h.small, by omega, by omega⟩
    · exact .inr ⟨ht0, hd, hlo, oE, hl.n.trans h.n_, by omega, N, nx, T, _, hop, by rw [flat_snoc, h.sum], hsm, by rw [List.length_append, List.length_singleton]; omega, by rw [List.length_append]; omega⟩
  · refine (sadd_ok s w0 u q p g cap 8 64 N nx (bst T) X v rs d E w hs hb h.mem (by omega) hroom (by omega) hon (by omega) a1).mono ?_
    rintro e w' ⟨rfl, v', hm, hch, hv⟩
    refine ⟨hlow w' hch, .inl ⟨rfl, v', E, hm, hA, hat, oE, hl.n.trans h.n_, by omega, by rw [flat_snoc, h.sum], hsm, by rw [List.length_append, List.length_singleton]; omega, by rw [List.length_append]; omega⟩, fun hf0 => ?_⟩
    exfalso
    have hfl := framesF_len (N + rs.length + 1) X.data.toList
    have h64 := frames_64 (q := N + rs.length + 1) (x := X.data.toList)
    cases hL : framesF (N + rs.length + 1) X.data.toList with
    | nil => rw [hL, List.length_nil, hsl] at hfl; omega
    | cons y l =>
      rw [hL] at a1 h64
      have h1 := puts_dead (d := d) (i := 2 * 8 + (layR N rs).length) (y := y) (l := l) (by rw [hlay, h.n_]; omega) (h64 y (by simp)) hon hf0
      rw [a1] at h1
      cases h1
end Go.Proofs.YtmfchjbpbfkgiaaGreatDoor

/- A store's life with losses of power, the other steps: the fuse, the power that comes again, the opening. Conditions: the sentinels lie as the program's text lays them; the store or its disk lies in memory; the disk has seen fewer than a million writes. -/
namespace Go.Proofs.YtmfchjbpbfkgiaaGreatDoor
open Go Go.RowKit

theorem OpenAt.wiped {d : DS} {z m N nx : Nat} {T : List UInt8} {rs : List (List UInt8)} (h : OpenAt d z m N nx T rs) (ho : d.on = true) (ht : d.torn ≤ 64) :
    ((∃ e, d.wipe (2 * z + (layR N rs).length) (m - (layR N rs).length) = (0, e) ∧ d.Like e ∧ e.on = true ∧ e.wr ≤ d.wr + m ∧ AreaAt e z N nx T ∧ LogAt e (2 * z) m N rs) ∨
      ∃ e, d.wipe (2 * z + (layR N rs).length) (m - (layR N rs).length) = (14, e) ∧ d.Like e ∧ e.on = false ∧ e.wr ≤ d.wr + m ∧ OpenAt e z m N nx T rs) ∧ (d.fuse < 0 → (d.wipe (2 * z + (layR N rs).length) (m - (layR N rs).length)).1 = 0) := by
  have hu := h.used
  have hfit := h.fits
  refine ⟨?_, fun hf => ?_⟩
  · rcases wipe_any (d := d) (i := 2 * z + (layR N rs).length) (m := m - (layR N rs).length) (by omega) ho ht with ⟨e, a1, a2, a3, a4, a5⟩ | ⟨e, k, a1, a2, a3, a4, a5, a6, a7⟩
    · refine .inl ⟨e, a1, a2, a3, by omega, h.area.same fun j hj => by rw [a5, if_neg (by omega)], ⟨by rw [a2.n]; exact hfit, h.foll.small, h.foll.bound, hu, rowsD_eq (by rw [List.length_append, List.length_replicate]; omega) fun i hi => ?_⟩⟩
      rw [a5]
      by_cases h1 : i < (layR N rs).length
      · rw [if_neg (by omega), List.getElem?_append_left h1, ← h.foll.laid, List.getElem?_take_of_lt h1, rowsD_get hi]
      · rw [if_pos (by omega), List.getElem?_append_right (by omega), List.getElem?_replicate_of_lt (by omega)]
    · exact .inr ⟨e, a1, a2, a3, by omega, h.cut (k := k) a2.n ht a5 (by omega) a7⟩
  · obtain ⟨e, h1, _⟩ := wipe_ok (m - (layR N rs).length) d (2 * z + (layR N rs).length) (by omega) ho (.inl hf)
    rw [h1]
theorem setFuse_on {d : DS} (n t : Int) (ho : d.on = true) : (d.setFuse n t).bs = d.bs ∧ (d.setFuse n t).on = true ∧ (d.setFuse n t).wr = d.wr ∧ (d.setFuse n t).fuse = n ∧ (d.setFuse n t).torn = clampI t 64 := by
  unfold DS.setFuse; rw [if_pos ho]
  exact ⟨rfl, ho, rfl, rfl, rfl⟩
theorem blk_of_bs {d e : DS} (h : e.bs = d.bs) : (∀ j, e.blk j = d.blk j) ∧ e.n = d.n := ⟨fun j => by unfold DS.blk; rw [h], by unfold DS.n; rw [h]⟩

theorem al_fuse (w0 : World) (u q p g cap N nx : Nat) (T S : List UInt8) (v : Value) (rs : List (List UInt8)) (d : DS) (c K : Nat) (n t : Int) (w : World) (hb : Below w0.heap.size w0 w) (h : AlS w w0.heap.size u q p g cap N nx T S v rs d c K)
    (h0 : -9223372036854775808 ≤ n) (h1 : n ≤ 9223372036854775807) (t0 : -9223372036854775808 ≤ t) (t1 : t ≤ 9223372036854775807) :
    Calls Tryz.prog 37 #[.pointer (some ⟨p, 0, none⟩), .int .i64 n, .int .i64 t] w fun e w' => e = .returned (.tuple #[]) ∧ Below w0.heap.size w0 w' ∧ AlS w' w0.heap.size u q p g cap N nx T S v rs (d.setFuse n t) c K := by
  obtain ⟨f1, f2, f3, _, _⟩ := setFuse_on (d := d) n t h.on
  obtain ⟨f4, f5⟩ := blk_of_bs f1
  refine (fuse_c p g cap d n t w h.mem.log.disk h0 h1 t0 t1).mono ?_
  rintro e w' ⟨he, hd, hc⟩
  have hch : ChgS (Dsk2 p g) w w' := ChgS.of_chg hc (.inl rfl) (.inr rfl)
  exact ⟨he, hb.trans (h.stb (hch.mono fun _ _ h => dsk2_stoS h)), ⟨h.mem.disked hd hch f5, h.area.same fun j _ => f4 j, h.at_.same f5 fun i _ => f4 _, f2, f5.trans h.n_, by rw [f3]; exact h.wr_, h.sum, h.small, h.cnt, h.len⟩⟩
theorem of_fuse (w0 : World) (p g cap : Nat) (S : List UInt8) (d : DS) (c K : Nat) (n t : Int) (w : World) (hb : Below w0.heap.size w0 w) (h : OfS w w0.heap.size p g cap S c K true d)
    (h0 : -9223372036854775808 ≤ n) (h1 : n ≤ 9223372036854775807) (t0 : -9223372036854775808 ≤ t) (t1 : t ≤ 9223372036854775807) :
    Calls Tryz.prog 37 #[.pointer (some ⟨p, 0, none⟩), .int .i64 n, .int .i64 t] w fun e w' => e = .returned (.tuple #[]) ∧ Below w0.heap.size w0 w' ∧ OfS w' w0.heap.size p g cap S c K true (d.setFuse n t) := by
  obtain ⟨hd0, hlo, ho, hn, hw, N, nx, T, rs, hop, hsum, hsm, hcnt, hlen⟩ := h
  obtain ⟨f1, f2, f3, _, _⟩ := setFuse_on (d := d) n t ho
  obtain ⟨f4, f5⟩ := blk_of_bs f1
  refine (fuse_c p g cap d n t w hd0 h0 h1 t0 t1).mono ?_
  rintro e w' ⟨he, hd, hc⟩
  have hch : ChgS (Dsk2 p g) w w' := ChgS.of_chg hc (.inl rfl) (.inr rfl)
  have hl := hd0.lt
  exact ⟨he, hb.trans (hch.below (by rintro k (rfl | rfl) <;> omega) hb.size), hd, hlo, f2, f5.trans hn, by rw [f3]; exact hw, N, nx, T, rs, hop.same f5 f4, hsum, hsm, hcnt, hlen⟩
theorem of_come (w0 : World) (p g cap : Nat) (S : List UInt8) (d : DS) (c K : Nat) (w : World) (hb : Below w0.heap.size w0 w) (h : OfS w w0.heap.size p g cap S c K false d) :
    Calls Tryz.prog 39 #[.pointer (some ⟨p, 0, none⟩)] w fun e w' => e = .returned (.tuple #[]) ∧ Below w0.heap.size w0 w' ∧ OfS w' w0.heap.size p g cap S c K true d.come ∧ d.come.fuse < 0 := by
  obtain ⟨hd0, hlo, ho, hn, hw, N, nx, T, rs, hop, hsum, hsm, hcnt, hlen⟩ := h
  have hcm : d.come = { d with on := true, fuse := -1 } := by unfold DS.come; rw [ho]; rfl
  have f1 : d.come.bs = d.bs := by rw [hcm]
  have f2 : d.come.on = true := by rw [hcm]
  have f3 : d.come.wr = d.wr := by rw [hcm]
  have f6 : d.come.fuse < 0 := by rw [hcm]; show (-1 : Int) < 0; omega
  obtain ⟨f4, f5⟩ := blk_of_bs f1
  refine (come_c p g cap d w hd0).mono ?_
  rintro e w' ⟨he, hd, hc⟩
  have hch : ChgS (Dsk2 p g) w w' := ChgS.of_chg hc (.inl rfl) (.inr rfl)
  have hl := hd0.lt
  exact ⟨he, hb.trans (hch.below (by rintro k (rfl | rfl) <;> omega) hb.size), ⟨hd, hlo, f2, f5.trans hn, by rw [f3]; exact hw, N, nx, T, rs, hop.same f5 f4, hsum, hsm, hcnt, hlen⟩, f6⟩
/-- The power goes at rest. -/
theorem al_rest (s : Nat → Addr) (w0 : World) (u q p g cap N nx : Nat) (T S : List UInt8) (v : Value) (rs : List (List UInt8)) (d : DS) (c K : Nat) (X : ByteArray) (w : World) (hs : Sent s w0) (hb : Below w0.heap.size w0 w) (h : AlS w w0.heap.size u q p g cap N nx T S v rs d c K) (hX : X.size ≤ 8) (hc : c ≤ 50) (hK : K ≤ 100000) (hf : d.fuse = 0) (ht : d.torn = 0) :
    Calls Tryz.prog 35 #[.pointer (some ⟨u, 0, none⟩), .string X] w fun e w' => e = .returned (errV s 14) ∧ Below w0.heap.size w0 w' ∧ ∃ d', OfS w' w0.heap.size p g cap S (c + 1) (K + 108) false d' := by
  refine (al_add s w0 u q p g cap N nx T S v rs d c K X w hs hb h hX hc hK).mono ?_
  rintro e w' ⟨hb', hway, hfz⟩
  have he := hfz hf
  refine ⟨he, hb', ?_⟩
  rcases hway with ⟨he2, _⟩ | ⟨_, d', ho⟩
  · rw [he2] at he
    rw [errV_pos] at he
    cases he
  · rcases ho with ho | ⟨h0, _⟩
    · exact ⟨d', ho⟩
    · exact absurd ht h0
theorem of_open (s : Nat → Addr) (w0 : World) (p g cap : Nat) (S : List UInt8) (d : DS) (c K : Nat) (w : World) (hs : Sent s w0) (hb : Below w0.heap.size w0 w) (h : OfS w w0.heap.size p g cap S c K true d) (hc : c ≤ 60) (hK : K ≤ 100000) :
    Calls Tryz.prog 24 #[.pointer (some ⟨p, 0, none⟩), .int .i64 8] w fun e w' => Below w0.heap.size w0 w' ∧ ((∃ u q N nx T v rs d', e = .returned (.tuple #[.pointer (some ⟨u, 0, none⟩), .nilIface]) ∧ AlS w' w0.heap.size u q p g cap N nx T S v rs d' c (K + 64)) ∨
      (¬ d.fuse < 0 ∧ e = .returned (.tuple #[.pointer none, errV s 14]) ∧ ∃ d', OfS w' w0.heap.size p g cap S c (K + 64) false d')) := by
  obtain ⟨hd0, hlo, ho, hn, hw, N, nx, T, rs, hop, hsum, hsm, hcnt, hlen⟩ := h
  have hl := hd0.lt
  have hlow : ∀ w', ChgS (fun k => k = p ∨ k = g) w w' → Below w0.heap.size w0 w' := fun w' hch => hb.trans (hch.below (by rintro k (rfl | rfl) <;> omega) hb.size)
  obtain ⟨hway, hneg⟩ := hop.wiped ho hd0.ok.torn
  rcases hway with ⟨e, a1, a2, a3, a4, hA, hat⟩ | ⟨e, a1, a2, a3, a4, hop'⟩
  · refine (sopen_c s w0 p g cap d 8 64 N nx T rs 8 w hs hb hd0 hlo rfl (by omega) (by omega) (by omega) (by omega) ho hop.area.tells (by omega) (by omega) hop.foll (by rw [a1])).mono ?_
    rintro e' w' ⟨u, q, v, rfl, hm, hch, _, _⟩
    rw [a1] at hm
    exact ⟨hlow w' hch, .inl ⟨u, q, N, nx, T, v, rs, e, rfl, hm, hA, hat, a3, a2.n.trans hn, by omega, hsum, hsm, hcnt, hlen⟩⟩
  · refine (sopen_cut s w0 p g cap d 8 64 N nx T rs 8 w hs hb hd0 hlo rfl (by omega) (by omega) (by omega) (by omega) ho hop.area.tells (by omega) (by omega) hop.foll (by rw [a1])).mono ?_
    rintro e' w' ⟨rfl, hd, hch⟩
    rw [a1] at hd
    refine ⟨hlow w' hch, .inr ⟨fun hf => ?_, rfl, e, hd, hlo, a3, a2.n.trans hn, by omega, N, nx, T, rs, hop', hsum, hsm, hcnt, hlen⟩⟩
    have := hneg hf
    rw [a1] at this
    cases this
/-- A new disk of 80 blocks. -/
theorem fresh_of {w : World} {B p g cap : Nat} {d : DS} (h : FreshD w p g cap 80 d) (hlo : B ≤ g) : OfS w B p g cap [] 0 0 true d := by
  have hr := h.rows
  have hf := follows_zeros (b := 0) (m := 64) (rs := []) (by simp) (by simp)
  simp only [layR, List.nil_append] at hf
  have hA : AreaAt d 8 0 0 [] := ⟨by omega, .inl rfl, .inl ⟨rfl, rfl, rfl, by
    rw [hr (8 - 0) 8 (by omega)]
    intro b hb
    have : zeroF = b := Option.some.inj hb
    rw [← this, seq_zero]; omega⟩, by rw [hr 0 8 (by omega)]; exact dead_zeros (by omega)⟩
  exact ⟨h.at_, hlo, h.on, h.n_, by rw [h.wr]; exact Nat.le_refl _, 0, 0, [], [], ⟨by rw [h.n_]; omega, hA, by rw [hr (2 * 8) 64 (by omega)]; exact hf, by rw [hr (2 * 8) 64 (by omega)]; simp only [layR, List.length_nil, List.drop_zero]; exact dead_zeros (by omega)⟩, rfl, by simp, by simp, by simp⟩
end Go.Proofs.YtmfchjbpbfkgiaaGreatDoor
