/-
  What a write leaves on a disk that meets no fault, and what a read of it gives, as plain data. No program.
-/
import Derived.Test.YtpnebhfegahaoaaXtP
namespace Go.Proofs.Ytpnebhfegahaoaa
open Go.RowKit

/-- No faults are armed, and the power is on. -/
def Quiet (S : Dsk) : Prop := S.fs = [] ∧ S.off = false
theorem Quiet.run {S : Dsk} (h : Quiet S) : S.ans true = 0 ∧ S.done true = S.tick ∧ ∀ i xs, S.wrote true i xs = S.tick.put i xs := by
  have hk : S.kind = 0 := by unfold Dsk.kind; rw [h.1, fk_nil]
  have he : S.err true = 0 := by simp [Dsk.err, h.2, hk]
  have hp : S.pow true = false := by simp [Dsk.pow, h.2, hk]
  have hb : S.begun true = S.tick := by simp [Dsk.begun, h.2]
  have hd : S.done true = S.tick := by simp [Dsk.done, he, hp, hb]
  exact ⟨by simp [Dsk.ans, he, hp], hd, fun i xs => by simp [Dsk.wrote, he, hd]⟩
/-- What is read of all sectors. -/
def view (n : Nat) (S : Dsk) : List UInt8 := flat n fun i => S.sec i
theorem view_length {n : Nat} {S : Dsk} (h : S.Ok n) : (view n S).length = 64 * n := flat_length fun i hi => h.sec hi
theorem flat_splice_at {n : Nat} {st : Nat → List UInt8} (h : ∀ i, i < n → (st i).length = 64) {i p : Nat} (hi : i < n) {xs : List UInt8} (hx : p + xs.length ≤ 64) :
    splice (flat n st) (64 * i + p) xs = flat n (upd st i (splice (st i) p xs)) := by
  have h' : ∀ k, k < n → (upd st i (splice (st i) p xs) k).length = 64 := by
    intro k hk
    by_cases hki : k = i
    · subst hki; rw [upd_same, splice_len (by rw [h k hk]; exact hx), h k hk]
    · rw [upd_other _ _ hki, h k hk]
  have hl := flat_length h
  have hl' := flat_length h'
  have hfit : 64 * i + p + xs.length ≤ (flat n st).length := by rw [hl]; omega
  apply List.ext_getElem?
  intro q
  rw [splice_get _ _ _ _ hfit]
  by_cases hq : q < 64 * n
  · have hqk : q / 64 < n := by omega
    have hqj : q % 64 < 64 := by omega
    have hqe : q = 64 * (q / 64) + q % 64 := by omega
    have g1 := flat_get h hqk hqj
    have g2 := flat_get h' hqk hqj
    rw [← hqe] at g1 g2
    rw [g2]
    by_cases hki : q / 64 = i
    · rw [hki, upd_same, splice_get _ _ _ _ (by rw [h i hi]; exact hx)]
      rw [hki] at g1
      by_cases h1 : q % 64 < p
      · rw [if_pos (by omega), if_pos h1, g1]
      · rw [if_neg (by omega), if_neg h1]
        by_cases h2 : q % 64 < p + xs.length
        · rw [if_pos (by omega), if_pos h2]
          congr 1
          omega
        · rw [if_neg (by omega), if_neg h2, g1]
    · rw [upd_other _ _ hki]
      by_cases h1 : q < 64 * i + p
      · rw [if_pos h1]; exact g1
      · rw [if_neg h1, if_neg (by omega)]; exact g1
  · rw [List.getElem?_eq_none (by omega : (flat n (upd st i (splice (st i) p xs))).length ≤ q), if_neg (by omega), if_neg (by omega), List.getElem?_eq_none (by omega)]
theorem splice_splice {α : Type} (L x y : List α) (o : Nat) (h : o + x.length + y.length ≤ L.length) : splice (splice L o x) (o + x.length) y = splice L o (x ++ y) := by
  apply List.ext_getElem?
  intro q
  have hl : (splice L o x).length = L.length := splice_len (by omega)
  have g1 := splice_get (splice L o x) y (o + x.length) q (by rw [hl]; exact h)
  have g2 := splice_get L (x ++ y) o q (by rw [List.length_append]; omega)
  have g3 := splice_get L x o q (by omega)
  rw [g1, g2, g3]
  simp only [List.length_append]
  by_cases h1 : q < o
  · rw [if_pos (by omega), if_pos h1, if_pos h1]
  · by_cases h2 : q < o + x.length
    · rw [if_pos h2, if_neg h1, if_pos h2, if_neg h1, if_pos (by omega), List.getElem?_append_left (by omega)]
    · by_cases h3 : q < o + x.length + y.length
      · rw [if_neg h2, if_pos h3, if_neg h1, if_pos (by omega), List.getElem?_append_right (by omega)]
        congr 1
        omega
      · rw [if_neg h2, if_neg h3, if_neg h1, if_neg h2, if_neg h1, if_neg (by omega)]
/-- One part is written. -/
theorem repl_quiet {n : Nat} {S : Dsk} (h : Quiet S) (hok : S.Ok n) {i p : Nat} (hi : i < n) {xs : List UInt8} (hx : p + xs.length ≤ 64) :
    (S.repl i p xs).2 = 0 ∧ Quiet (S.repl i p xs).1 ∧ (S.repl i p xs).1.Ok n ∧ view n (S.repl i p xs).1 = splice (view n S) (64 * i + p) xs ∧ (S.repl i p xs).1.st = S.st ∧ ∀ j, j ≠ i → (S.repl i p xs).1.ca j = S.ca j := by
  obtain ⟨e1, e2, e3⟩ := h.run
  have hsl := hok.sec hi
  have hview : ∀ (T : Dsk), T.st = S.st → T.ca = upd S.ca i (some (splice (S.sec i) p xs)) → view n T = splice (view n S) (64 * i + p) xs := by
    intro T h1 h2
    unfold view
    rw [flat_splice_at (fun i hi => hok.sec hi) hi hx]
    apply flat_congr
    intro j hj
    unfold Dsk.sec
    rw [h1, h2]
    by_cases hji : j = i
    · subst hji; rw [upd_same, upd_same]; rfl
    · rw [upd_other _ _ hji, upd_other _ _ hji]
  by_cases hl : xs.length = 64
  · have hp : p = 0 := by omega
    subst hp
    have hr : S.repl i 0 xs = (S.tick.put i xs, 0) := by simp [Dsk.repl, hl, e1, e3]
    rw [hr]
    have hs : splice (S.sec i) 0 xs = xs := by unfold splice; rw [List.drop_of_length_le (by omega)]; simp
    refine ⟨rfl, h, hok.tick.put hi hl, hview _ rfl ?_, rfl, fun j hj => ?_⟩
    · rw [hs]; rfl
    · simp only [Dsk.put, upd_other _ _ hj]; rfl
  · have h2 : Quiet S.tick := h
    obtain ⟨g1, g2, g3⟩ := h2.run
    have hr : S.repl i p xs = (S.tick.tick.put i (splice (S.sec i) p xs), 0) := by simp [Dsk.repl, hl, e1, e2, g1, g3]
    rw [hr]
    have hs : (splice (S.sec i) p xs).length = 64 := by rw [splice_len (by omega)]; exact hsl
    refine ⟨rfl, h, hok.tick.tick.put hi hs, hview _ rfl rfl, rfl, fun j hj => ?_⟩
    simp only [Dsk.put, upd_other _ _ hj]; rfl
theorem wrc_quiet (f n : Nat) (fu : Nat) : ∀ (off m : Nat) (S : Dsk) (d : List UInt8), m ≤ fu → d.length = m → 64 * f + off + m ≤ 64 * n → Quiet S → S.Ok n →
    (wrc f (chs fu off m) S d).2 = 0 ∧ Quiet (wrc f (chs fu off m) S d).1 ∧ (wrc f (chs fu off m) S d).1.Ok n ∧ view n (wrc f (chs fu off m) S d).1 = splice (view n S) (64 * f + off) d ∧ (wrc f (chs fu off m) S d).1.st = S.st ∧
      ∀ j, (j < f + off / 64 ∨ 64 * f + off + m ≤ 64 * j) → (wrc f (chs fu off m) S d).1.ca j = S.ca j := by
  induction fu with
  | zero =>
    intro off m S d h1 h2 _ hq hok
    obtain rfl : m = 0 := by omega
    obtain rfl : d = [] := List.eq_nil_of_length_eq_zero h2
    refine ⟨rfl, hq, hok, ?_, rfl, fun _ _ => rfl⟩
    simp [chs, wrc, splice]
  | succ fu ih =>
    intro off m S d h1 h2 h3 hq hok
    by_cases hm : m = 0
    · subst hm
      obtain rfl : d = [] := List.eq_nil_of_length_eq_zero h2
      rw [chs_nil]
      refine ⟨rfl, hq, hok, ?_, rfl, fun _ _ => rfl⟩
      simp [wrc, splice]
    · have k1 := cklen_pos (off := off) (m := m) (by omega)
      have k2 := cklen_le off m
      have k3 := cklen_64 off m
      have htl : (d.take (cklen off m)).length = cklen off m := by simp; omega
      obtain ⟨r1, r2, r3, r4, r5, r6⟩ := repl_quiet hq hok (i := f + off / 64) (p := off % 64) (by omega) (xs := d.take (cklen off m)) (by omega)
      have hw : wrc f (chs (fu + 1) off m) S d = wrc f (chs fu (off + cklen off m) (m - cklen off m)) (S.repl (f + off / 64) (off % 64) (d.take (cklen off m))).1 (d.drop (cklen off m)) := by
        simp only [chs, if_neg hm, wrc, r1]
        simp
      rw [hw]
      obtain ⟨q1, q2, q3, q4, q5, q6⟩ := ih (off + cklen off m) (m - cklen off m) _ (d.drop (cklen off m)) (by omega) (by simp; omega) (by omega) r2 r3
      have hvl := view_length hok
      refine ⟨q1, q2, q3, ?_, q5.trans r5, fun j hj => ?_⟩
      · rw [q4, r4, show 64 * (f + off / 64) + off % 64 = 64 * f + off by omega]
        have := splice_splice (view n S) (d.take (cklen off m)) (d.drop (cklen off m)) (64 * f + off) (by rw [htl, hvl]; simp; omega)
        rw [htl, List.take_append_drop] at this
        rw [← this]
        congr 1
        omega
      · rw [q6 j (by omega), r6 j (by omega)]
/-- Parts are read. -/
theorem rdc_quiet (f n : Nat) (fu : Nat) : ∀ (off m : Nat) (S : Dsk) (acc : List UInt8), m ≤ fu → 64 * f + off + m ≤ 64 * n → Quiet S → S.Ok n →
    (rdc f (chs fu off m) S acc).2.1 = 0 ∧ (rdc f (chs fu off m) S acc).2.2 = acc ++ ((view n S).drop (64 * f + off)).take m ∧ Quiet (rdc f (chs fu off m) S acc).1 ∧ (rdc f (chs fu off m) S acc).1.st = S.st ∧ (rdc f (chs fu off m) S acc).1.ca = S.ca := by
  induction fu with
  | zero =>
    intro off m S acc h1 _ hq _
    obtain rfl : m = 0 := by omega
    exact ⟨rfl, by simp [chs, rdc], hq, rfl, rfl⟩
  | succ fu ih =>
    intro off m S acc h1 h3 hq hok
    by_cases hm : m = 0
    · subst hm
      rw [chs_nil]
      exact ⟨rfl, by simp [rdc], hq, rfl, rfl⟩
    · have k1 := cklen_pos (off := off) (m := m) (by omega)
      have k2 := cklen_le off m
      have k3 := cklen_64 off m
      obtain ⟨e1, e2, _⟩ := hq.run
      have hw : rdc f (chs (fu + 1) off m) S acc = rdc f (chs fu (off + cklen off m) (m - cklen off m)) S.tick (acc ++ ((S.sec (f + off / 64)).drop (off % 64)).take (cklen off m)) := by
        simp only [chs, if_neg hm, rdc, e1, e2]
        simp
      rw [hw]
      obtain ⟨q1, q2, q3, q4, q5⟩ := ih (off + cklen off m) (m - cklen off m) S.tick (acc ++ ((S.sec (f + off / 64)).drop (off % 64)).take (cklen off m)) (by omega) (by omega) hq hok.tick
      refine ⟨q1, ?_, q3, q4, q5⟩
      rw [q2, List.append_assoc]
      congr 1
      have hsub : ((S.sec (f + off / 64)).drop (off % 64)).take (cklen off m) = ((view n S).drop (64 * f + off)).take (cklen off m) := by
        apply List.ext_getElem?
        intro q
        rw [List.getElem?_take, List.getElem?_take]
        split
        · rename_i hq
          rw [List.getElem?_drop, List.getElem?_drop]
          have := flat_get (fun i hi => hok.sec hi) (i := f + off / 64) (j := off % 64 + q) (by omega) (by omega)
          unfold view
          rw [← this]
          congr 1
          omega
        · rfl
      rw [hsub]
      have hv : view n S.tick = view n S := rfl
      rw [hv]
      have : m = cklen off m + (m - cklen off m) := by omega
      conv => rhs; rw [this]
      rw [List.take_add, List.drop_drop, Nat.add_assoc]

end Go.Proofs.Ytpnebhfegahaoaa
