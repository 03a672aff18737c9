/-
  A disk as plain data: stored sectors, cache, armed faults, count, power; what each operation makes of it. No program.
-/
import Derived.Test.YtbknpfngboioeaaBase
import Derived.Laws.CopyOwn
namespace Go.Proofs.Ytbknpfngboioeaa
open Go.RowKit

structure Dsk where
  st : Nat → List UInt8
  ca : Nat → Option (List UInt8)
  fs : List (Int × Int)
  cnt : Int
  off : Bool

def upd {α : Type} (f : Nat → α) (i : Nat) (x : α) : Nat → α := fun j => if j = i then x else f j
theorem upd_same {α : Type} (f : Nat → α) (i : Nat) (x : α) : upd f i x i = x := by simp [upd]
theorem upd_other {α : Type} (f : Nat → α) {i j : Nat} (x : α) (h : j ≠ i) : upd f i x j = f j := by simp [upd, h]

/-- All sectors, one behind the other. -/
def flat (n : Nat) (st : Nat → List UInt8) : List UInt8 := (List.range n).flatMap st
theorem flat_zero (st : Nat → List UInt8) : flat 0 st = [] := rfl
theorem flat_succ (n : Nat) (st : Nat → List UInt8) : flat (n + 1) st = flat n st ++ st n := by
  simp [flat, List.range_succ]
theorem flat_length {n : Nat} {st : Nat → List UInt8} (h : ∀ i, i < n → (st i).length = 64) : (flat n st).length = 64 * n := by
  induction n with
  | zero => rfl
  | succ n ih =>
    rw [flat_succ, List.length_append, ih fun i hi => h i (by omega), h n (by omega)]
    omega
theorem flat_get {n : Nat} {st : Nat → List UInt8} (h : ∀ i, i < n → (st i).length = 64) {i j : Nat} (hi : i < n) (hj : j < 64) : (flat n st)[64 * i + j]? = (st i)[j]? := by
  induction n with
  | zero => omega
  | succ n ih =>
    have hl := flat_length (n := n) (st := st) fun i hi => h i (by omega)
    rw [flat_succ]
    by_cases hin : i < n
    · rw [List.getElem?_append_left (by omega)]
      exact ih (fun i hi => h i (by omega)) hin
    · have : i = n := by omega
      subst this
      rw [List.getElem?_append_right (by omega), hl]
      congr 1
      omega
theorem flat_congr {n : Nat} {st st' : Nat → List UInt8} (h : ∀ i, i < n → st i = st' i) : flat n st = flat n st' := by
  induction n with
  | zero => rfl
  | succ n ih => rw [flat_succ, flat_succ, ih fun i hi => h i (by omega), h n (by omega)]
theorem splice_get {α : Type} (L cs : List α) (off p : Nat) (h : off + cs.length ≤ L.length) : (splice L off cs)[p]? = if p < off then L[p]? else if p < off + cs.length then cs[p - off]? else L[p]? := by
  unfold splice
  have ht : (L.take off).length = off := by simp; omega
  split
  · rename_i h1
    rw [List.getElem?_append_left (by omega), List.getElem?_take, if_pos h1]
  · rename_i h1
    rw [List.getElem?_append_right (by omega), ht]
    split
    · rename_i h2
      rw [List.getElem?_append_left (by omega)]
    · rename_i h2
      rw [List.getElem?_append_right (by omega), List.getElem?_drop]
      congr 1
      omega
/-- What stands in a sector of which the first bytes were written. -/
def onto (xs old : List UInt8) : List UInt8 := xs ++ old.drop xs.length
theorem onto_length {xs old : List UInt8} (h : xs.length ≤ old.length) : (onto xs old).length = old.length := by simp [onto]; omega
theorem onto_whole {xs old : List UInt8} (h : old.length ≤ xs.length) : onto xs old = xs := by simp [onto, List.drop_of_length_le h]
theorem flat_splice {n : Nat} {st : Nat → List UInt8} (h : ∀ i, i < n → (st i).length = 64) {i : Nat} (hi : i < n) {xs : List UInt8} (hx : xs.length ≤ 64) :
    splice (flat n st) (64 * i) xs = flat n (upd st i (onto xs (st i))) := by
  have h' : ∀ k, k < n → (upd st i (onto xs (st i)) k).length = 64 := by
    intro k hk
    by_cases hki : k = i
    · subst hki; rw [upd_same, onto_length (by rw [h k hk]; exact hx), h k hk]
    · rw [upd_other _ _ hki, h k hk]
  have hl := flat_length h
  have hl' := flat_length h'
  have hfit : 64 * i + xs.length ≤ (flat n st).length := by rw [hl]; omega
  apply List.ext_getElem?
  intro p
  rw [splice_get _ _ _ _ hfit]
  by_cases hp : p < 64 * n
  · have hpk : p / 64 < n := by omega
    have hpj : p % 64 < 64 := by omega
    have hpe : p = 64 * (p / 64) + p % 64 := by omega
    have g1 := flat_get h hpk hpj
    have g2 := flat_get h' hpk hpj
    rw [← hpe] at g1 g2
    rw [g2]
    by_cases hki : p / 64 = i
    · rw [hki, upd_same]
      rw [if_neg (by omega)]
      unfold onto
      split
      · rw [List.getElem?_append_left (by omega)]
        congr 1
        omega
      · rw [List.getElem?_append_right (by omega), List.getElem?_drop, g1, hki]
        congr 1
        omega
    · rw [upd_other _ _ hki]
      split
      · exact g1
      · rw [if_neg (by omega)]; exact g1
  · rw [List.getElem?_eq_none (by omega : (flat n (upd st i (onto xs (st i)))).length ≤ p), if_neg (by omega), if_neg (by omega), List.getElem?_eq_none (by omega)]
theorem flat_sub {n : Nat} {st : Nat → List UInt8} (h : ∀ i, i < n → (st i).length = 64) {i : Nat} (hi : i < n) : ((flat n st).drop (64 * i)).take 64 = st i := by
  apply List.ext_getElem?
  intro j
  rw [List.getElem?_take]
  split
  · rename_i hj
    rw [List.getElem?_drop, flat_get h hi hj]
  · rw [List.getElem?_eq_none (by rw [h i hi]; omega)]

/-- The kind of the fault of an operation; of several the first one. -/
def fk (fs : List (Int × Int)) (c : Int) : Int := ((fs.find? fun f => f.1 == c).map (·.2)).getD 0
theorem fk_nil (c : Int) : fk [] c = 0 := rfl
theorem fk_cons (f : Int × Int) (fs : List (Int × Int)) (c : Int) : fk (f :: fs) c = if f.1 = c then f.2 else fk fs c := by
  unfold fk
  by_cases h : f.1 = c <;> simp [h]

def Dsk.tick (S : Dsk) : Dsk := { S with cnt := wrap64 (S.cnt + 1) }
def Dsk.cut (S : Dsk) : Dsk := { S with off := true }
def Dsk.kind (S : Dsk) : Int := fk S.fs S.cnt
/-- The error of an operation that has no effect, else 0. -/
def Dsk.err (S : Dsk) (ok : Bool) : Int := if S.off then 10 else if ok then (if S.kind = 1 then 9 else 0) else 2
def Dsk.pow (S : Dsk) (ok : Bool) : Bool := !S.off && ok && decide (S.kind = 2)
def Dsk.begun (S : Dsk) (ok : Bool) : Dsk := if S.off then S else if ok then S.tick else S
def inR (n : Nat) (i : Int) : Bool := decide (0 ≤ i) && decide (i < n)
def Dsk.sec (S : Dsk) (i : Nat) : List UInt8 := (S.ca i).getD (S.st i)
/-- The error that an operation answers. -/
def Dsk.ans (S : Dsk) (ok : Bool) : Int := if S.err ok ≠ 0 then S.err ok else if S.pow ok then 10 else 0
/-- The disk behind an operation that changes nothing else. -/
def Dsk.done (S : Dsk) (ok : Bool) : Dsk := if S.err ok ≠ 0 then S.begun ok else if S.pow ok then (S.begun ok).cut else S.begun ok
def Dsk.put (S : Dsk) (i : Nat) (xs : List UInt8) : Dsk := { S with ca := upd S.ca i (some xs) }
def Dsk.wrote (S : Dsk) (ok : Bool) (i : Nat) (xs : List UInt8) : Dsk := if S.err ok ≠ 0 then S.begun ok else (S.done ok).put i xs
def Dsk.flush (S : Dsk) : Dsk := { S with st := fun i => S.sec i, ca := fun _ => none }
def Dsk.synced (S : Dsk) : Dsk := if S.ans true ≠ 0 then S.done true else (S.done true).flush
def Dsk.armed (S : Dsk) (fs : List (Int × Int)) : Dsk := { S with fs := fs, cnt := 0 }
/-- The number of bytes that are kept of a sector. -/
def kb (b : Int) : Nat := (min (max b 0) 64).toNat
theorem kb_le (b : Int) : kb b ≤ 64 := by unfold kb; omega
def keep1 (ca : Nat → Option (List UInt8)) (st : Nat → List UInt8) (k : Int × Int) : Nat → List UInt8 :=
  if k.1 < 0 then st else match ca k.1.toNat with
  | none => st
  | some xs => upd st k.1.toNat (onto (xs.take (kb k.2)) (st k.1.toNat))
def Dsk.restarted (S : Dsk) (ks : List (Int × Int)) : Dsk := { st := ks.foldl (keep1 S.ca) S.st, ca := fun _ => none, fs := [], cnt := 0, off := false }
def dirty (n : Nat) (ca : Nat → Option (List UInt8)) : List Nat := (List.range n).filter fun i => (ca i).isSome
/-- A new disk. -/
def Dsk.fresh (st : Nat → List UInt8) : Dsk := { st := st, ca := fun _ => none, fs := [], cnt := 0, off := false }

/-- What lies within the bounds. -/
structure Dsk.Ok (n : Nat) (S : Dsk) : Prop where
  n1 : 1 ≤ n
  n4 : n ≤ 4096
  st : ∀ i, i < n → (S.st i).length = 64
  ca : ∀ i xs, S.ca i = some xs → i < n ∧ xs.length = 64
  c0 : -9223372036854775808 ≤ S.cnt
  c1 : S.cnt ≤ 9223372036854775807
theorem Dsk.Ok.cut {n : Nat} {S : Dsk} (h : S.Ok n) : S.cut.Ok n := ⟨h.n1, h.n4, h.st, h.ca, h.c0, h.c1⟩
theorem Dsk.Ok.tick {n : Nat} {S : Dsk} (h : S.Ok n) : S.tick.Ok n := ⟨h.n1, h.n4, h.st, h.ca, by simp only [Dsk.tick, wrap64]; omega, by simp only [Dsk.tick, wrap64]; omega⟩
theorem Dsk.Ok.begun {n : Nat} {S : Dsk} (h : S.Ok n) (ok : Bool) : (S.begun ok).Ok n := by
  unfold Dsk.begun
  split
  · exact h
  · split
    · exact h.tick
    · exact h
theorem Dsk.Ok.done {n : Nat} {S : Dsk} (h : S.Ok n) (ok : Bool) : (S.done ok).Ok n := by
  unfold Dsk.done
  split
  · exact h.begun ok
  · split
    · exact (h.begun ok).cut
    · exact h.begun ok
theorem Dsk.Ok.put {n : Nat} {S : Dsk} (h : S.Ok n) {i : Nat} (hi : i < n) {xs : List UInt8} (hx : xs.length = 64) : (S.put i xs).Ok n := by
  refine ⟨h.n1, h.n4, h.st, fun j ys hj => ?_, h.c0, h.c1⟩
  by_cases hji : j = i
  · subst hji
    simp only [Dsk.put, upd_same, Option.some.injEq] at hj
    subst hj
    exact ⟨hi, hx⟩
  · simp only [Dsk.put, upd_other _ _ hji] at hj
    exact h.ca j ys hj
theorem Dsk.Ok.sec {n : Nat} {S : Dsk} (h : S.Ok n) {i : Nat} (hi : i < n) : (S.sec i).length = 64 := by
  unfold Dsk.sec
  cases hc : S.ca i with
  | none => exact h.st i hi
  | some xs => exact (h.ca i xs hc).2
theorem Dsk.Ok.flush {n : Nat} {S : Dsk} (h : S.Ok n) : S.flush.Ok n := ⟨h.n1, h.n4, fun _ hi => h.sec hi, fun _ _ h => by simp [Dsk.flush] at h, h.c0, h.c1⟩
theorem Dsk.Ok.armed {n : Nat} {S : Dsk} (h : S.Ok n) (fs : List (Int × Int)) : (S.armed fs).Ok n := ⟨h.n1, h.n4, h.st, h.ca, by simp [Dsk.armed], by simp [Dsk.armed]⟩
theorem keep1_len {n : Nat} {ca : Nat → Option (List UInt8)} {st : Nat → List UInt8} (hc : ∀ i xs, ca i = some xs → i < n ∧ xs.length = 64) (hs : ∀ i, i < n → (st i).length = 64) (k : Int × Int) :
    ∀ i, i < n → (keep1 ca st k i).length = 64 := by
  intro i hi
  unfold keep1
  by_cases hk : k.1 < 0
  · rw [if_pos hk]; exact hs i hi
  · rw [if_neg hk]
    cases hx : ca k.1.toNat with
    | none => exact hs i hi
    | some xs =>
      obtain ⟨h1, h2⟩ := hc _ _ hx
      by_cases hik : i = k.1.toNat
      · subst hik
        simp only [upd_same]
        rw [onto_length (by rw [hs _ hi]; have := kb_le k.2; simp; omega), hs _ hi]
      · simp only [upd_other _ _ hik]
        exact hs i hi
theorem keeps_len {n : Nat} {ca : Nat → Option (List UInt8)} (hc : ∀ i xs, ca i = some xs → i < n ∧ xs.length = 64) (ks : List (Int × Int)) : ∀ (st : Nat → List UInt8), (∀ i, i < n → (st i).length = 64) →
    ∀ i, i < n → (ks.foldl (keep1 ca) st i).length = 64 := by
  induction ks with
  | nil => intro st hs; exact hs
  | cons k ks ih => intro st hs; exact ih _ (keep1_len hc hs k)
theorem Dsk.Ok.restarted {n : Nat} {S : Dsk} (h : S.Ok n) (ks : List (Int × Int)) : (S.restarted ks).Ok n :=
  ⟨h.n1, h.n4, keeps_len h.ca ks S.st h.st, fun _ _ h => by simp [Dsk.restarted] at h, by simp [Dsk.restarted], by simp [Dsk.restarted]⟩
theorem Dsk.Ok.fresh {n : Nat} {st : Nat → List UInt8} (h1 : 1 ≤ n) (h4 : n ≤ 4096) (hs : ∀ i, i < n → (st i).length = 64) : (Dsk.fresh st).Ok n :=
  ⟨h1, h4, hs, fun _ _ h => by simp [Dsk.fresh] at h, by simp [Dsk.fresh], by simp [Dsk.fresh]⟩

end Go.Proofs.Ytbknpfngboioeaa
