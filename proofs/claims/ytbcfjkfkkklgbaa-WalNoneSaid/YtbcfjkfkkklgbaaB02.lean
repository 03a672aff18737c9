/-
What a write leaves on a disk that meets no fault, and what a read of it gives, as plain data. No program.
append of a slice to a row that the call itself has made; the slices of bytes that came in. No program.
Which blocks of memory a call may turn: those of a set F, and new ones. No program.
-/
import Derived.Test.YtbcfjkfkkklgbaaB00
import Derived.Laws.AppendOwnNone
import Derived.OpenShut
import Derived.Deep.WholeRow
import Derived.Maps.RangeWalk
import Derived.Maps.OwnSet
namespace Go.Proofs.Ytbcfjkfkkklgbaa
section
open Go.RowKit

/-- No faults are armed, and the power is on. -/
def Quiet (S : Dsk) : Prop := S.fs = [] ∧ S.off = false
theorem Quiet.run {S : Dsk} (h : Quiet S) : S.ans true = 0 ∧ S.done true = S.tick ∧ ∀ i xs, S.wrote true i xs = S.tick.put i xs := by
  have hk : S.kind = 0 := by unfold Dsk.kind; rw [h.1, fk_nil]
  have he : S.err true = 0 := by simp [Dsk.err, h.2, hk]
  have hp : S.pow true = false := by simp [Dsk.pow, h.2, hk]
  have hb : S.begun true = S.tick := by simp [Dsk.begun, h.2]
  have hd : S.done true = S.tick := by simp [Dsk.done, he, hp, hb]
  exact ⟨by simp [Dsk.ans, he, hp], hd, fun i xs => by simp [Dsk.wrote, he, hd]⟩
/-- What is read of all sectors. -/
def view (n : Nat) (S : Dsk) : List UInt8 := flat n fun i => S.sec i
theorem view_length {n : Nat} {S : Dsk} (h : S.Ok n) : (view n S).length = 64 * n := flat_length fun i hi => h.sec hi
theorem flat_splice_at {n : Nat} {st : Nat → List UInt8} (h : ∀ i, i < n → (st i).length = 64) {i p : Nat} (hi : i < n) {xs : List UInt8} (hx : p + xs.length ≤ 64) :
    splice (flat n st) (64 * i + p) xs = flat n (upd st i (splice (st i) p xs)) := by
  have h' : ∀ k, k < n → (upd st i (splice (st i) p xs) k).length = 64 := by
    intro k hk
    by_cases hki : k = i
    · subst hki; rw [upd_same, splice_len (by rw [h k hk]; exact hx), h k hk]
    · rw [upd_other _ _ hki, h k hk]
  have hl := flat_length h
  have hl' := flat_length h'
  have hfit : 64 * i + p + xs.length ≤ (flat n st).length := by rw [hl]; omega
  apply List.ext_getElem?
  intro q
  rw [splice_get _ _ _ _ hfit]
  by_cases hq : q < 64 * n
  · have hqk : q / 64 < n := by omega
    have hqj : q % 64 < 64 := by omega
    have hqe : q = 64 * (q / 64) + q % 64 := by omega
    have g1 := flat_get h hqk hqj
    have g2 := flat_get h' hqk hqj
    rw [← hqe] at g1 g2
    rw [g2]
    by_cases hki : q / 64 = i
    · rw [hki, upd_same, splice_get _ _ _ _ (by rw [h i hi]; exact hx)]
      rw [hki] at g1
      by_cases h1 : q % 64 < p
      · rw [if_pos (by omega), if_pos h1, g1]
      · rw [if_neg (by omega), if_neg h1]
        by_cases h2 : q % 64 < p + xs.length
        · rw [if_pos (by omega), if_pos h2]
          congr 1
          omega
        · rw [if_neg (by omega), if_neg h2, g1]
    · rw [upd_other _ _ hki]
      by_cases h1 : q < 64 * i + p
      · rw [if_pos h1]; exact g1
      · rw [if_neg h1, if_neg (by omega)]; exact g1
  · rw [List.getElem?_eq_none (by omega : (flat n (upd st i (splice (st i) p xs))).length ≤ q), if_neg (by omega), if_neg (by omega), List.getElem?_eq_none (by omega)]
theorem splice_splice {α : Type} (L x y : List α) (o : Nat) (h : o + x.length + y.length ≤ L.length) : splice (splice L o x) (o + x.length) y = splice L o (x ++ y) := by
  apply List.ext_getElem?
  intro q
  have hl : (splice L o x).length = L.length := splice_len (by omega)
  have g1 := splice_get (splice L o x) y (o + x.length) q (by rw [hl]; exact h)
  have g2 := splice_get L (x ++ y) o q (by rw [List.length_append]; omega)
  have g3 := splice_get L x o q (by omega)
  rw [g1, g2, g3]
  simp only [List.length_append]
  by_cases h1 : q < o
  · rw [if_pos (by omega), if_pos h1, if_pos h1]
  · by_cases h2 : q < o + x.length
    · rw [if_pos h2, if_neg h1, if_pos h2, if_neg h1, if_pos (by omega), List.getElem?_append_left (by omega)]
    · by_cases h3 : q < o + x.length + y.length
      · rw [if_neg h2, if_pos h3, if_neg h1, if_pos (by omega), List.getElem?_append_right (by omega)]
        congr 1
        omega
      · rw [if_neg h2, if_neg h3, if_neg h1, if_neg h2, if_neg h1, if_neg (by omega)]
/-- One part is written. -/
theorem repl_quiet {n : Nat} {S : Dsk} (h : Quiet S) (hok : S.Ok n) {i p : Nat} (hi : i < n) {xs : List UInt8} (hx : p + xs.length ≤ 64) :
    (S.repl i p xs).2 = 0 ∧ Quiet (S.repl i p xs).1 ∧ (S.repl i p xs).1.Ok n ∧ view n (S.repl i p xs).1 = splice (view n S) (64 * i + p) xs ∧ (S.repl i p xs).1.st = S.st ∧ ∀ j, j ≠ i → (S.repl i p xs).1.ca j = S.ca j := by
  obtain ⟨e1, e2, e3⟩ := h.run
  have hsl := hok.sec hi
  have hview : ∀ (T : Dsk), T.st = S.st → T.ca = upd S.ca i (some (splice (S.sec i) p xs)) → view n T = splice (view n S) (64 * i + p) xs := by
    intro T h1 h2
    unfold view
    rw [flat_splice_at (fun i hi => hok.sec hi) hi hx]
    apply flat_congr
    intro j hj
    unfold Dsk.sec
    rw [h1, h2]
    by_cases hji : j = i
    · subst hji; rw [upd_same, upd_same]; rfl
    · rw [upd_other _ _ hji, upd_other _ _ hji]
  by_cases hl : xs.length = 64
  · have hp : p = 0 := by omega
    subst hp
    have hr : S.repl i 0 xs = (S.tick.put i xs, 0) := by simp [Dsk.repl, hl, e1, e3]
    rw [hr]
    have hs : splice (S.sec i) 0 xs = xs := by unfold splice; rw [List.drop_of_length_le (by omega)]; simp
    refine ⟨rfl, h, hok.tick.put hi hl, hview _ rfl ?_, rfl, fun j hj => ?_⟩
    · rw [hs]; rfl
    · simp only [Dsk.put, upd_other _ _ hj]; rfl
  · have h2 : Quiet S.tick := h
    obtain ⟨g1, g2, g3⟩ := h2.run
    have hr : S.repl i p xs = (S.tick.tick.put i (splice (S.sec i) p xs), 0) := by simp [Dsk.repl, hl, e1, e2, g1, g3]
    rw [hr]
    have hs : (splice (S.sec i) p xs).length = 64 := by rw [splice_len (by omega)]; exact hsl
    refine ⟨rfl, h, hok.tick.tick.put hi hs, hview _ rfl rfl, rfl, fun j hj => ?_⟩
    simp only [Dsk.put, upd_other _ _ hj]; rfl
theorem wrc_quiet (f n : Nat) (fu : Nat) : ∀ (off m : Nat) (S : Dsk) (d : List UInt8), m ≤ fu → d.length = m → 64 * f + off + m ≤ 64 * n → Quiet S → S.Ok n →
    (wrc f (chs fu off m) S d).2 = 0 ∧ Quiet (wrc f (chs fu off m) S d).1 ∧ (wrc f (chs fu off m) S d).1.Ok n ∧ view n (wrc f (chs fu off m) S d).1 = splice (view n S) (64 * f + off) d ∧ (wrc f (chs fu off m) S d).1.st = S.st ∧
      ∀ j, (j < f + off / 64 ∨ 64 * f + off + m ≤ 64 * j) → (wrc f (chs fu off m) S d).1.ca j = S.ca j := by
  induction fu with
  | zero =>
    intro off m S d h1 h2 _ hq hok
    obtain rfl : m = 0 := by omega
    obtain rfl : d = [] := List.eq_nil_of_length_eq_zero h2
    refine ⟨rfl, hq, hok, ?_, rfl, fun _ _ => rfl⟩
    simp [chs, wrc, splice]
  | succ fu ih =>
    intro off m S d h1 h2 h3 hq hok
    by_cases hm : m = 0
    · subst hm
      obtain rfl : d = [] := List.eq_nil_of_length_eq_zero h2
      rw [chs_nil]
      refine ⟨rfl, hq, hok, ?_, rfl, fun _ _ => rfl⟩
      simp [wrc, splice]
    · have k1 := cklen_pos (off := off) (m := m) (by omega)
      have k2 := cklen_le off m
      have k3 := cklen_64 off m
      have htl : (d.take (cklen off m)).length = cklen off m := by simp; omega
      obtain ⟨r1, r2, r3, r4, r5, r6⟩ := repl_quiet hq hok (i := f + off / 64) (p := off % 64) (by omega) (xs := d.take (cklen off m)) (by omega)
      have hw : wrc f (chs (fu + 1) off m) S d = wrc f (chs fu (off + cklen off m) (m - cklen off m)) (S.repl (f + off / 64) (off % 64) (d.take (cklen off m))).1 (d.drop (cklen off m)) := by
        simp only [chs, if_neg hm, wrc, r1]
        simp
      rw [hw]
      obtain ⟨q1, q2, q3, q4, q5, q6⟩ := ih (off + cklen off m) (m - cklen off m) _ (d.drop (cklen off m)) (by omega) (by simp; omega) (by omega) r2 r3
      have hvl := view_length hok
      refine ⟨q1, q2, q3, ?_, q5.trans r5, fun j hj => ?_⟩
      · rw [q4, r4, show 64 * (f + off / 64) + off % 64 = 64 * f + off by omega]
        have := splice_splice (view n S) (d.take (cklen off m)) (d.drop (cklen off m)) (64 * f + off) (by rw [htl, hvl]; simp; omega)
        rw [htl, List.take_append_drop] at this
        rw [← this]
        congr 1
        omega
      · rw [q6 j (by omega), r6 j (by omega)]
/-- Parts are read. -/
theorem rdc_quiet (f n : Nat) (fu : Nat) : ∀ (off m : Nat) (S : Dsk) (acc : List UInt8), m ≤ fu → 64 * f + off + m ≤ 64 * n → Quiet S → S.Ok n →
    (rdc f (chs fu off m) S acc).2.1 = 0 ∧ (rdc f (chs fu off m) S acc).2.2 = acc ++ ((view n S).drop (64 * f + off)).take m ∧ Quiet (rdc f (chs fu off m) S acc).1 ∧ (rdc f (chs fu off m) S acc).1.st = S.st ∧ (rdc f (chs fu off m) S acc).1.ca = S.ca := by
  induction fu with
  | zero =>
    intro off m S acc h1 _ hq _
    obtain rfl : m = 0 := by omega
    exact ⟨rfl, by simp [chs, rdc], hq, rfl, rfl⟩
  | succ fu ih =>
    intro off m S acc h1 h3 hq hok
    by_cases hm : m = 0
    · subst hm
      rw [chs_nil]
      exact ⟨rfl, by simp [rdc], hq, rfl, rfl⟩
    · have k1 := cklen_pos (off := off) (m := m) (by omega)
      have k2 := cklen_le off m
      have k3 := cklen_64 off m
      obtain ⟨e1, e2, _⟩ := hq.run
      have hw : rdc f (chs (fu + 1) off m) S acc = rdc f (chs fu (off + cklen off m) (m - cklen off m)) S.tick (acc ++ ((S.sec (f + off / 64)).drop (off % 64)).take (cklen off m)) := by
        simp only [chs, if_neg hm, rdc, e1, e2]
        simp
      rw [hw]
      obtain ⟨q1, q2, q3, q4, q5⟩ := ih (off + cklen off m) (m - cklen off m) S.tick (acc ++ ((S.sec (f + off / 64)).drop (off % 64)).take (cklen off m)) (by omega) (by omega) hq hok.tick
      refine ⟨q1, ?_, q3, q4, q5⟩
      rw [q2, List.append_assoc]
      congr 1
      have hsub : ((S.sec (f + off / 64)).drop (off % 64)).take (cklen off m) = ((view n S).drop (64 * f + off)).take (cklen off m) := by
        apply List.ext_getElem?
        intro q
        rw [List.getElem?_take, List.getElem?_take]
        split
        · rename_i hq
          rw [List.getElem?_drop, List.getElem?_drop]
          have := flat_get (fun i hi => hok.sec hi) (i := f + off / 64) (j := off % 64 + q) (by omega) (by omega)
          unfold view
          rw [← this]
          congr 1
          omega
        · rfl
      rw [hsub]
      have hv : view n S.tick = view n S := rfl
      rw [hv]
      have : m = cklen off m + (m - cklen off m) := by omega
      conv => rhs; rw [this]
      rw [List.take_add, List.drop_drop, Nat.add_assoc]
end

section
open Go.RowKit

/-- '[]T{}' leaves a row without cells. -/
theorem own_empty (w : World) (e : TypeId) : (w.alloc (.cells #[] e)).ownsRow w.heap.size e 1 (.slice (some ⟨w.heap.size, 0, none⟩) 0 0) 0 [] :=
  ⟨rfl, .inr ⟨w.heap.size, 0, #[], rfl, Nat.le_refl _, by show (w.heap.push _)[w.heap.size]? = _; simp, Nat.le_refl _, Nat.zero_le _, rfl, rfl⟩⟩
/-- A row that was just laid. -/
theorem own_laid (w : World) (e : TypeId) (xs : List Value) (n : Nat) (h : xs.length = n) (hn : n ≤ maxLen) : (w.alloc (.cells xs.toArray e)).ownsRow w.heap.size e 1 (.slice (some ⟨w.heap.size, 0, none⟩) n n) n xs :=
  ⟨by omega, .inr ⟨w.heap.size, n, xs.toArray, rfl, Nat.le_refl _, by show (w.heap.push _)[w.heap.size]? = _; simp, Nat.le_refl _, hn, by simp [h], by simp [← h]⟩⟩

/-- append(v, x...): v owns its row, x reads as a list. -/
theorem wpList_app_has {P : Program} {w0 : World} (w : World) {ops : Array Oper} {rest : List Oper} {o : Oper} {a : Act} {Q : Exit → Act → World → Prop} (hgd : o.guard = none) (s x : Operand) (t : TypeId)
    (ho : o.op = .call { callee := .builtin .append, args := #[s, x], argTypes := #[t, t] })
    (base : Nat) (e : TypeId) (i : TypeInfo) (z : Value) (bytes : Nat) (ht : P.underlying t = some (.slice e)) (hi : P.info? e = some i) (hz : i.zero = some z)
    (hsize : i.size = 1) (hby : i.bytes = bytes) (hzs : z.cells.size = 1)
    (v : Value) (n : Nat) (xs : List Value) (hs : a.eval s = v) (hown : w.ownsRow base e 1 v n xs)
    (A : Option Addr) (m c B : Nat) (news : List Value) (hx : a.eval x = .slice A m c) (hA : A = none → c = 0) (hhas : Has w B A m news) (h1 : ∀ u ∈ news, u.oneCell' = true)
    (h63 : n + m ≤ maxLen) (hbytes : (n + m) * bytes ≤ 140737488355328) (hb : Below base w0 w) (hbase : base ≤ w0.heap.size)
    (h : ∀ v' w', w'.ownsRow base e 1 v' (n + m) (xs ++ news) → Below base w0 w' → w.grownBy w' v.ownBlock → wpList P ops Q rest (a.put o.dst v') w') : wpList P ops Q (o :: rest) a w := by
  have hbw : base ≤ w.heap.size := by have := hb.size; omega
  match A, hx, hA, hhas with
  | none, hx, hA, hhas =>
    have hm : m = 0 := by
      by_cases h0 : 0 < m
      · obtain ⟨b, off, e, _⟩ := hhas.2 h0
        cases e
      · omega
    subst hm
    obtain rfl := hA rfl
    have hn : news = [] := List.eq_nil_of_length_eq_zero hhas.1
    subst hn
    refine wpList_append_own_none hgd s x t ho base e i 1 ht hi v n xs hs hown hx ?_
    exact h v w (by simpa using hown) hb ⟨rfl, rfl, rfl, Nat.le_refl _, fun _ _ _ => rfl⟩
  | some ad, hx, hA, hhas =>
    refine wpList_append_own (w := w) hgd s x t ho base e i z 1 bytes ht hi hz hsize hby hzs (by decide) v n xs hs hown ad m c news hx (by rw [hhas.1, Nat.mul_one]) ?_ h1 h63 hbytes hbw ?_
    · intro j u hj
      have hjl : j < news.length := (List.getElem?_eq_some_iff.1 hj).1
      obtain ⟨b, off, e, hb, hc⟩ := hhas.2 (by have := hhas.1; omega)
      injection e with e
      subst e
      have hadd : (⟨b, off, none⟩ : Addr).add j = ⟨b, off + j, none⟩ := by unfold Addr.add; split <;> simp_all
      rw [hadd, hc j hjl, ← hj, List.getElem?_eq_getElem hjl]
    · intro v' w' hown' hgrow _
      exact h v' w' hown' (owns_below hown hb hbw hgrow) hgrow

/-- A guarded operation whose guard is met, as one without a guard. -/
theorem wpList_wanted {P : Program} {w : World} {ops : Array Oper} {rest : List Oper} {o : Oper} {a : Act} {Q : Exit → Act → World → Prop} (hw : Region.wanted o (yielded ops a.tmps) = true)
    (h : wpList P ops Q ({ o with guard := none } :: rest) a w) : wpList P ops Q (o :: rest) a w := by
  unfold wpList at h ⊢
  rw [if_pos hw]
  rw [if_pos (by rfl)] at h
  exact h

theorem of_own_none {w : World} {base n c : Nat} {e : TypeId} {A : Option Addr} {xs : List Value} (h : w.ownsRow base e 1 (.slice A n c) n xs) : A = none → c = 0 := by
  rintro rfl
  rcases h.2 with ⟨e, _⟩ | ⟨g, cap, cur, e, _⟩
  · injection e
  · injection e with e _ _; cases e

/-- What a call leaves above the world leaves a row as it was. -/
theorem own_below {w w' : World} {base e size n : Nat} {v : Value} {xs : List Value} (h : w.ownsRow base e size v n xs) (hb : Below w.heap.size w w') : w'.ownsRow base e size v n xs :=
  ⟨h.1, h.2.elim Or.inl fun ⟨g, cap, cur, hv, hg, hr, r⟩ => Or.inr ⟨g, cap, cur, hv, hg, (hb.block g (Array.getElem?_eq_some_iff.1 hr).1).trans hr, r⟩⟩

/-- A slice of bytes that came in. -/
def Arg8 (w : World) (A : Option Addr) (len cap : Nat) (l : List UInt8) : Prop :=
  Has w w.heap.size A len (l.map bv) ∧ len ≤ cap ∧ cap ≤ maxLen ∧ (A = none → cap = 0)
theorem arg8_of {w : World} {a : Option Addr} {len cap : Nat} {zs : List Int}
    (h : (a = none ∧ len = 0 ∧ cap = 0 ∧ zs = []) ∨
      ∃ x, a = some x ∧ len ≤ cap ∧ cap ≤ maxLen ∧ zs.length = cap ∧ (∀ i, i < zs.length → w.cell? (x.add i) = some (.int .u8 (zs.getD i 0))) ∧ ∀ n ∈ zs, (Lit.int .u8 n).wf = true) :
    ∃ l, Arg8 w a len cap l := by
  rcases h with ⟨rfl, rfl, rfl, rfl⟩ | ⟨x, rfl, hl, hm, hz, hc, hw⟩
  · exact ⟨[], Has.nil _ _ _, Nat.le_refl _, Nat.zero_le _, fun _ => rfl⟩
  · refine ⟨(zs.take len).map fun n => UInt8.ofNat n.toNat, ⟨by simp; omega, fun h0 => ?_⟩, hl, hm, fun e => by cases e⟩
    have h00 := hc 0 (by omega)
    have hx0 : x.add 0 = x := by unfold Addr.add; simp
    rw [hx0] at h00
    have hspot : x.spot = none := by
      unfold World.cell? at h00
      split at h00
      · by_cases hs : x.spot.isSome = true
        · rw [if_pos hs] at h00; cases h00
        · simpa using hs
      · cases h00
    have hlt : x.block < w.heap.size := by
      unfold World.cell? at h00
      split at h00
      · rename_i hh
        exact (Array.getElem?_eq_some_iff.1 hh).1
      · cases h00
    refine ⟨x.block, x.off, by rw [← hspot], hlt, fun j hj => ?_⟩
    have hj' : j < len := by simp at hj; omega
    have hadd : x.add j = ⟨x.block, x.off + j, none⟩ := by
      unfold Addr.add
      split
      · subst j; rw [Nat.add_zero, ← hspot]
      · rfl
    rw [← hadd, hc j (by omega)]
    have hwj := hw (zs.getD j 0) (by
      rw [List.getD_eq_getElem?_getD, List.getElem?_eq_getElem (by omega)]
      exact List.getElem_mem _)
    have hbd := bounds_u8 hwj
    simp only [List.getElem_map, List.getElem_take, bv_eq]
    rw [List.getD_eq_getElem?_getD, List.getElem?_eq_getElem (by omega), Option.getD_some] at hbd ⊢
    rw [UInt8.toNat_ofNat']
    congr 2
    omega
theorem Arg8.len {w : World} {A : Option Addr} {len cap : Nat} {l : List UInt8} (h : Arg8 w A len cap l) : l.length = len := by simpa using h.1.1

/-- A slice that came in is the first part of itself. -/
theorem Has.take {w : World} {B n : Nat} {A : Option Addr} {xs : List Value} (h : Has w B A n xs) (m : Nat) (hm : m ≤ n) : Has w B A m (xs.take m) :=
  ⟨by have := h.1; simp; omega, fun h0 => by
    obtain ⟨b, off, e, hb, hc⟩ := h.2 (by omega)
    refine ⟨b, off, e, hb, fun j hj => ?_⟩
    rw [hc j (by simp at hj; omega)]
    simp⟩
theorem Has.laid (w : World) (t : TypeId) (c : Array Value) (fr : Nat × Nat) (n : Nat) (xs : List Value) (hc : c = xs.toArray) (hn : xs.length = n) : Has (w.alloc (.cells c t fr)) (w.heap.size + 1) (some ⟨w.heap.size, 0, none⟩) n xs :=
  ⟨hn, fun _ => ⟨w.heap.size, 0, rfl, by omega, fun j hj => by
    subst hc
    rw [cell_of_row _ w.heap.size (0 + j) xs.toArray t fr (heap_alloc_last w _)]
    simp⟩⟩
theorem one_bytes (l : List UInt8) : ∀ u ∈ l.map bv, u.oneCell' = true := by
  intro u hu
  obtain ⟨c, _, rfl⟩ := List.mem_map.1 hu
  rfl
end

section
open Go.RowKit

/-- Nothing but the blocks of F has turned. -/
structure Frm (F : Nat → Prop) (w w' : World) : Prop where
  os : w'.os = w.os
  tape : w'.tape = w.tape
  output : w'.output = w.output
  size : w.heap.size ≤ w'.heap.size
  block : ∀ k, k < w.heap.size → ¬ F k → w'.heap[k]? = w.heap[k]?

section
variable {F G : Nat → Prop} {w w1 w2 : World}
theorem Frm.refl (F : Nat → Prop) (w : World) : Frm F w w := ⟨rfl, rfl, rfl, Nat.le_refl _, fun _ _ _ => rfl⟩
theorem Frm.trans (h : Frm F w w1) (k : Frm G w1 w2) (hG : ∀ b, G b → F b ∨ w.heap.size ≤ b) : Frm F w w2 :=
  ⟨k.os.trans h.os, k.tape.trans h.tape, k.output.trans h.output, Nat.le_trans h.size k.size, fun i hi hF =>
    (k.block i (by have := h.size; omega) fun hg => (hG i hg).elim hF (fun h1 => by omega)).trans (h.block i hi hF)⟩
theorem Frm.trans' (h : Frm F w w1) (k : Frm F w1 w2) : Frm F w w2 := h.trans k fun _ h => .inl h
theorem Frm.more (h : Frm F w w1) (hG : ∀ b, F b → b < w.heap.size → G b) : Frm G w w1 := ⟨h.os, h.tape, h.output, h.size, fun i hi hn => h.block i hi fun hf => hn (hG i hf hi)⟩
theorem Frm.of_below (h : Below w.heap.size w w1) : Frm F w w1 := ⟨h.os, h.tape, h.output, h.size, fun i hi _ => h.block i hi⟩
theorem Frm.below {B : Nat} (h : Frm F w w1) (hF : ∀ b, F b → B ≤ b) (hB : B ≤ w.heap.size) : Below B w w1 := ⟨h.os, h.tape, h.output, h.size, fun i hi => h.block i (by omega) fun hf => by have := hF i hf; omega⟩
theorem Frm.of_grown {row : Option Nat} (h : w.grownBy w1 row) (hF : ∀ b, row = some b → F b) : Frm F w w1 :=
  ⟨h.os, h.tape, h.output, h.size, fun i hi hn => h.block i hi fun e => hn (hF i e.symm)⟩
theorem Frm.alloc (h : Frm F w w1) (o : Obj) : Frm F w (w1.alloc o) := h.trans' (Frm.of_below ((Below.refl _ _).alloc (Nat.le_refl _) o))
theorem Frm.setCell (h : Frm F w w1) {p : Addr} (hp : F p.block ∨ w.heap.size ≤ p.block) (u : Value) : Frm F w (w1.setCell p u) :=
  h.trans (G := fun b => b = p.block) ⟨rfl, rfl, rfl, by simp [World.setCell], fun k _ hn => Below.heap_setCell _ _ _ _ hn⟩ fun b e => by subst e; exact hp
theorem Frm.cell (h : Frm F w w1) {p : Addr} (hp : p.block < w.heap.size) (hn : ¬ F p.block) : w1.cell? p = w.cell? p := World.cell?_of_block (w := w) (h.block p.block hp hn)
theorem lt_of_some {b : Nat} {o : Obj} (h : w.heap[b]? = some o) : b < w.heap.size := (Array.getElem?_eq_some_iff.1 h).1
theorem Frm.obj (h : Frm F w w1) {b : Nat} {o : Obj} (ho : w.heap[b]? = some o) (hn : ¬ F b) : w1.heap[b]? = some o := (h.block b (lt_of_some ho) hn).trans ho
theorem cell_lt {b j : Nat} {v : Value} (h : w.cell? ⟨b, j, none⟩ = some v) : b < w.heap.size := by
  unfold World.cell? at h
  split at h
  · rename_i hh
    exact (Array.getElem?_eq_some_iff.1 hh).1
  · cases h
theorem maps_frm {H : Type} {P : Program} {k : TypeId} {R : Value → Option (DataW H × List MemPlace)} {b n : Nat} {D : DataW H} (h : w.ownsMap P k R b n D) (hf : Frm F w w1) (hn : ¬ F b) : w1.ownsMap P k R b n D := by
  obtain ⟨es, clock, hb, r⟩ := h
  exact ⟨es, clock, hf.obj hb hn, r⟩
end

/-- A slice that reads as a list of values, none of them in a block of F. -/
def HasF (F : Nat → Prop) (w : World) (A : Option Addr) (n : Nat) (xs : List Value) : Prop :=
  xs.length = n ∧ (0 < n → ∃ b off, A = some ⟨b, off, none⟩ ∧ b < w.heap.size ∧ ¬ F b ∧ ∀ j (h : j < xs.length), w.cell? ⟨b, off + j, none⟩ = some xs[j])
section
variable {F G : Nat → Prop} {w w1 : World} {A : Option Addr} {n : Nat} {xs : List Value}
theorem HasF.has (h : HasF F w A n xs) : Has w w.heap.size A n xs :=
  ⟨h.1, fun h0 => by obtain ⟨b, off, e, hb, _, hc⟩ := h.2 h0; exact ⟨b, off, e, hb, hc⟩⟩
theorem HasF.of (h : Has w w.heap.size A n xs) (hF : ∀ b, F b → False) : HasF F w A n xs :=
  ⟨h.1, fun h0 => by obtain ⟨b, off, e, hb, hc⟩ := h.2 h0; exact ⟨b, off, e, hb, hF b, hc⟩⟩
theorem HasF.of_low {B : Nat} (h : Has w B A n xs) (hB : B ≤ w.heap.size) (hF : ∀ b, F b → B ≤ b) : HasF F w A n xs :=
  ⟨h.1, fun h0 => by obtain ⟨b, off, e, hb, hc⟩ := h.2 h0; exact ⟨b, off, e, by omega, fun hf => by have := hF b hf; omega, hc⟩⟩
theorem HasF.keep (h : HasF F w A n xs) (hf : Frm F w w1) (hG : ∀ b, G b → F b ∨ w.heap.size ≤ b) : HasF G w1 A n xs :=
  ⟨h.1, fun h0 => by
    obtain ⟨b, off, e, hb, hn, hc⟩ := h.2 h0
    exact ⟨b, off, e, by have := hf.size; omega, fun hg => (hG b hg).elim hn (fun h1 => by omega), fun j hj => (hf.cell (p := ⟨b, off + j, none⟩) hb hn).trans (hc j hj)⟩⟩
theorem HasF.less (h : HasF F w A n xs) (hG : ∀ b, G b → F b) : HasF G w A n xs :=
  ⟨h.1, fun h0 => by obtain ⟨b, off, e, hb, hn, hc⟩ := h.2 h0; exact ⟨b, off, e, hb, fun hg => hn (hG b hg), hc⟩⟩
end

theorem hasF_own {w : World} {F : Nat → Prop} {base e m c : Nat} {A : Option Addr} {xs : List Value} (h : w.ownsRow base e 1 (.slice A m c) m xs) (hF : ∀ b, F b → b < base) : HasF F w A m xs := by
  rcases h.2 with ⟨e, hn⟩ | ⟨g, cap, cur, e, hb, hg, hnc, _⟩
  · subst hn
    exact ⟨by simpa using h.1, fun h0 => absurd h0 (by omega)⟩
  · obtain ⟨A', c', e', hh, _⟩ := Has.of_own h
    refine ⟨hh.1, fun h0 => ?_⟩
    obtain ⟨b, off, eb, hlt, hc⟩ := hh.2 h0
    injection e with e1 _ _
    injection e' with e2 _ _
    rw [← e2, e1] at eb
    injection eb with eb
    injection eb with eb1 eb2
    subst eb1
    refine ⟨g, off, by rw [e1]; congr 2, hlt, fun hf => by have := hF g hf; omega, hc⟩

/-- How an element of a map reads whose values are kept as they are. -/
def heldR (v : Value) : Option (DataW Value × List MemPlace) := some (.held v, [])
theorem maps_tight {H : Type} {P : Program} {k : TypeId} {R : Value → Option (DataW H × List MemPlace)} {w : World} {b n : Nat} {D : DataW H} (h : w.ownsMap P k R b n D) (m : Nat) (hm : Maps.size D ≤ m) : w.ownsMap P k R b m D := by
  obtain ⟨es, clock, hb, F, hs, rfl⟩ := h
  exact ⟨es, clock, hb, F, by simpa [Maps.size, length_read] using hm, rfl⟩
end

end Go.Proofs.Ytbcfjkfkkklgbaa
