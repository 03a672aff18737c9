/-
Small lemmas without a program: strings as lists of bytes, endings, slices of strings in memory.
A disk as plain data: stored sectors, cache, armed faults, count, power; what each operation makes of it. No program.
Ranges of bytes in a range of sectors, as plain data: chunks, reading, writing. No program.
-/
import Derived.WalkKit
import Derived.WalkSpells
import Derived.WalkLawsBesides
import Derived.Lib.Hide
import Derived.Laws.BytesArg
import Derived.Laws.CopyOwn
namespace Go.Proofs.Ytbcfjkfkkklgbaa
section
open Go.RowKit

theorem ret_bool {a b : Bool} (h : a = b) : Ending.returned (.bool a) = .returned (.bool b) := by rw [h]
theorem ret_int {k : IntKind} {a b : Int} (h : a = b) : Ending.returned (.int k a) = .returned (.int k b) := by rw [h]
theorem ret_str {a b : ByteArray} (h : a = b) : Ending.returned (.string a) = .returned (.string b) := by rw [h]

/-- A string's bytes as a list, and back. -/
def ls (s : ByteArray) : List UInt8 := s.data.toList
def bs (l : List UInt8) : ByteArray := ⟨l.toArray⟩
theorem ls_bs (l : List UInt8) : ls (bs l) = l := rfl
theorem bs_ls (s : ByteArray) : bs (ls s) = s := by cases s; rfl
theorem ls_inj {a b : ByteArray} (h : ls a = ls b) : a = b := by rw [← bs_ls a, ← bs_ls b, h]
theorem toList_ls (s : ByteArray) : s.toList = ls s := ByteArray.toList_eq s
theorem ls_length (s : ByteArray) : (ls s).length = s.size := by cases s; rfl
theorem bs_size (l : List UInt8) : (bs l).size = l.length := by rw [← ls_length, ls_bs]
theorem ls_append (a b : ByteArray) : ls (a ++ b) = ls a ++ ls b := by simp [ls, ByteArray.data_append]
theorem ls_get (s : ByteArray) (k : Nat) (h : k < s.size) : (ls s)[k]? = some s[k] := by
  have h' : k < (ls s).length := by rw [ls_length]; exact h
  rw [List.getElem?_eq_getElem h']; rfl
theorem ls_getE (s : ByteArray) (k : Nat) (h : k < s.size) (h' : k < (ls s).length) : (ls s)[k] = s[k] := rfl
theorem ls_extract (s : ByteArray) (a b : Nat) : ls (s.extract a b) = ((ls s).drop a).take (b - a) := by
  simp [ls, ByteArray.data_extract]
theorem take_ls_succ (s : ByteArray) (k : Nat) (h : k < s.size) : (ls s).take (k + 1) = (ls s).take k ++ [s[k]] := by
  rw [List.take_succ_eq_append_getElem (by rw [ls_length]; exact h)]; rfl
theorem take_ls_all (s : ByteArray) : (ls s).take s.size = ls s := by rw [← ls_length, List.take_length]
theorem drop_ls_cons (s : ByteArray) (k : Nat) (h : k < s.size) : (ls s).drop k = s[k] :: (ls s).drop (k + 1) := by
  rw [List.drop_eq_getElem_cons (by rw [ls_length]; exact h)]; rfl
theorem drop_ls_all (s : ByteArray) : (ls s).drop s.size = [] := by rw [← ls_length, List.drop_length]
theorem byte_lt (c : UInt8) : (c.toNat : Int) < 256 := by have := c.toNat_lt; omega
/-- A byte as the walk's number. -/
def bv (c : UInt8) : Value := .int .u8 (c.toNat : Int)
theorem bv_eq (c : UInt8) : bv c = .int .u8 (c.toNat : Int) := rfl

/-- 'make([]byte, n)' leaves this. -/
def zeros (n : Nat) : Array Value := Array.replicate n (.int .u8 0)
theorem made_u8 (n : Nat) : madeCells #[.int .u8 0] n = zeros n := by
  apply Array.ext
  · simp [madeCells, zeros]
  · intro i h1 h2
    simp [madeCells, zeros, Nat.mod_one]

/-- A made row of bytes of which the first ones are written. -/
def fillRow (l : List UInt8) (n k : Nat) : Array Value := ((l.take k).map bv ++ List.replicate (n - k) (Value.int .u8 0)).toArray
theorem fillRow_zero (l : List UInt8) (n : Nat) : fillRow l n 0 = zeros n := by simp [fillRow, zeros]
theorem fillRow_size (l : List UInt8) (n k : Nat) (h : l.length = n) (hk : k ≤ n) : (fillRow l n k).size = n := by
  simp [fillRow]; omega
theorem fillRow_next (l : List UInt8) (n k : Nat) (h : l.length = n) (hk : k < n) : (fillRow l n k)[k]? = some (.int .u8 0) := by
  simp only [fillRow, List.getElem?_toArray]
  rw [List.getElem?_append_right (by simp; omega)]
  simp only [List.length_map, List.length_take]
  rw [List.getElem?_replicate, if_pos (by omega)]
theorem fillRow_set (l : List UInt8) (n k : Nat) (h : l.length = n) (hk : k < n) (c : UInt8) (hc : l[k]? = some c) :
    (fillRow l n k).setIfInBounds k (.int .u8 (c.toNat : Int)) = fillRow l n (k + 1) := by
  have hlk : k < l.length := by omega
  have hc' : l[k] = c := by rw [List.getElem?_eq_getElem hlk] at hc; exact Option.some.inj hc
  simp only [fillRow, List.setIfInBounds_toArray]
  congr 1
  rw [List.set_append_right _ _ (by simp; omega)]
  simp only [List.length_map, List.length_take]
  rw [List.take_succ_eq_append_getElem hlk, hc']
  rw [show n - k = (n - (k + 1)) + 1 by omega, show k - min k l.length = 0 by omega]
  simp [List.replicate_succ, bv]
theorem fillRow_all (l : List UInt8) (n j : Nat) (h : l.length = n) (hj : j < n) : (fillRow l n n)[j]? = some (.int .u8 ((l.map fun c => (c.toNat : Int)).getD j 0)) := by
  have hlj : j < l.length := by omega
  simp only [fillRow, List.getElem?_toArray]
  rw [List.getElem?_append_left (by simp; omega)]
  simp [List.take_of_length_le (Nat.le_of_eq h), bv, List.getD, List.getElem?_eq_getElem hlj]
theorem strOfNums_bytes (l : List UInt8) : strOfNums (l.map fun c => (c.toNat : Int)) = bs l := by
  have e : ((fun n : Int => UInt8.ofNat n.toNat) ∘ fun c : UInt8 => (c.toNat : Int)) = id := by funext c; simp
  simp [strOfNums, bs, e]

/-- What lies below: the row that a value owns lies from 'base' on. -/
theorem owns_below {w0 w w' : World} {base e size n : Nat} {v : Value} {xs : List Value} (hown : w.ownsRow base e size v n xs) (hb : Below base w0 w) (hbase : base ≤ w.heap.size) (hg : w.grownBy w' v.ownBlock) : Below base w0 w' :=
  hb.grown hg hbase fun k hk => (hown.lt k hk).1

theorem grownBy_trans {a b c : World} {row : Option Nat} (h : a.grownBy b row) (k : b.grownBy c row) : a.grownBy c row :=
  ⟨k.os.trans h.os, k.tape.trans h.tape, k.output.trans h.output, Nat.le_trans h.size k.size, fun i hi hne => (k.block i (Nat.lt_of_lt_of_le hi h.size) hne).trans (h.block i hi hne)⟩
/-- Two rows of different element types lie in different blocks. -/
theorem owns_ne {w : World} {base base' e e' size size' n n' : Nat} {v v' : Value} {xs xs' : List Value} (h : w.ownsRow base e size v n xs) (h' : w.ownsRow base' e' size' v' n' xs') (hne : e ≠ e') :
    v.ownBlock = none ∨ v.ownBlock ≠ v'.ownBlock := by
  rcases h.2 with ⟨rfl, _⟩ | ⟨g, cap, cur, rfl, _, hg, _⟩
  · exact .inl rfl
  · right
    rcases h'.2 with ⟨rfl, _⟩ | ⟨g', cap', cur', rfl, _, hg', _⟩
    · simp [Value.ownBlock]
    · intro he
      simp [Value.ownBlock] at he
      subst he
      rw [hg] at hg'
      simp at hg'
      exact hne hg'.2

/-- append(out, u) of one value of one cell: behind 'buildSlice'. -/
theorem wpList_app_one {P : Program} {w0 : World} (wr : World) {ops : Array Oper} {rest : List Oper} {o : Oper} {a : Act} {Q : Exit → Act → World → Prop} (hgd : o.guard = none) (s x : Operand) (t : TypeId)
    (ho : o.op = .call { callee := .builtin .append, args := #[s, x], argTypes := #[t, t] })
    (base : Nat) (e : TypeId) (i : TypeInfo) (z : Value) (bytes : Nat) (ht : P.underlying t = some (.slice e)) (hi : P.info? e = some i) (hz : i.zero = some z)
    (hsize : i.size = 1) (hby : i.bytes = bytes) (hzs : z.cells.size = 1) (u : Value) (hu : u.oneCell' = true)
    (v : Value) (n : Nat) (xs : List Value) (hs : a.eval s = v) (hown : wr.ownsRow base e 1 v n xs) (hx : a.eval x = .slice (some ⟨wr.heap.size, 0, none⟩) 1 1)
    (h63 : n + 1 ≤ maxLen) (hbytes : (n + 1) * bytes ≤ 140737488355328) (hb : Below base w0 wr) (hbase : base ≤ w0.heap.size)
    (h : ∀ v' w', w'.ownsRow base e 1 v' (n + 1) (xs ++ [u]) → Below base w0 w' → wr.grownBy w' v.ownBlock → wpList P ops Q rest (a.put o.dst v') w') : wpList P ops Q (o :: rest) a (wr.alloc (.cells #[u] e)) := by
  have hsz := hb.size
  have hbw : base ≤ wr.heap.size := by omega
  refine wpList_append_own _ hgd s x t ho base e i z 1 bytes ht hi hz hsize hby hzs (by decide) v n xs hs (hown.alloc _) ⟨wr.heap.size, 0, none⟩ 1 1 [u] hx rfl ?_ ?_ h63 hbytes (by simp; omega) ?_
  · intro j q hj
    match j, hj with
    | 0, hj =>
      simp at hj
      subst hj
      simp [Addr.add, World.cell?_alloc_at _ _ _ _ rfl]
  · intro q hq
    simp at hq
    subst hq
    exact hu
  · intro v' w' hown' hgrow _
    exact h v' w' hown' (owns_below (hown.alloc _) (hb.alloc hbw _) (by simp; omega) hgrow) (grownBy_trans (World.grownBy_alloc wr _ _) hgrow)

/-- The cells of a row that a value owns, one by one. -/
theorem owns_cell {w : World} {base e n : Nat} {v : Value} {xs : List Value} (h : w.ownsRow base e 1 v n xs) (hn : 0 < n) :
    ∃ g cap, v = .slice (some ⟨g, 0, none⟩) n cap ∧ base ≤ g ∧ g < w.heap.size ∧ ∀ j (hj : j < xs.length), w.cell? ⟨g, j, none⟩ = some xs[j] := by
  rcases h.2 with ⟨rfl, h0⟩ | ⟨g, cap, cur, rfl, hb, hg, hnc, _, _, htake⟩
  · omega
  · refine ⟨g, cap, rfl, hb, (Array.getElem?_eq_some_iff.1 hg).1, fun j hj => ?_⟩
    have := h.cells (g := g) rfl j xs[j] (List.getElem?_eq_getElem hj)
    have hadd : (⟨g, 0, none⟩ : Addr).add j = ⟨g, j, none⟩ := by unfold Addr.add; split <;> simp_all
    rwa [hadd] at this

/-- A slice that reads as a list of values of one cell; below block B. -/
def Has (w : World) (B : Nat) (A : Option Addr) (n : Nat) (xs : List Value) : Prop :=
  xs.length = n ∧ (0 < n → ∃ b off, A = some ⟨b, off, none⟩ ∧ b < B ∧ ∀ j (h : j < xs.length), w.cell? ⟨b, off + j, none⟩ = some xs[j])
section
variable {w w' : World} {B B' n : Nat} {A : Option Addr} {xs : List Value}
theorem Has.nil (w : World) (B : Nat) (A : Option Addr) : Has w B A 0 [] := ⟨rfl, fun h => absurd h (by omega)⟩
theorem Has.keep (h : Has w B A n xs) (hk : ∀ p : Addr, p.block < B → w'.cell? p = w.cell? p) : Has w' B A n xs :=
  ⟨h.1, fun hn => by
    obtain ⟨b, off, e, hb, hc⟩ := h.2 hn
    exact ⟨b, off, e, hb, fun j hj => (hk _ hb).trans (hc j hj)⟩⟩
theorem Has.more (h : Has w B A n xs) (hB : B ≤ B') : Has w B' A n xs :=
  ⟨h.1, fun hn => by
    obtain ⟨b, off, e, hb, hc⟩ := h.2 hn
    exact ⟨b, off, e, by omega, hc⟩⟩
theorem Has.below (h : Has w B A n xs) (hb : Below B w w') : Has w' B A n xs := h.keep fun _ hp => hb.cell hp
theorem Has.below' (h : Has w B A n xs) (hb : Below B' w w') (hB : B ≤ B') : Has w' B A n xs := h.keep fun _ hp => hb.cell (by omega)
theorem Has.drewN (h : Has w B A n xs) (k : Nat) : Has (w.drewN k) B A n xs := h
theorem Has.alloc (h : Has w B A n xs) (hB : B ≤ w.heap.size) (o : Obj) : Has (w.alloc o) B A n xs := h.keep fun p hp => World.cell?_alloc_lt w o p (by omega)
theorem Has.of_own {base : Nat} {e : TypeId} {v : Value} (h : w.ownsRow base e 1 v n xs) : ∃ A c, v = .slice A n c ∧ Has w w.heap.size A n xs ∧ n ≤ c := by
  have hx := h
  rcases h.2 with ⟨rfl, rfl⟩ | ⟨g, cap, cur, rfl, hb, hg, hnc, _⟩
  · have : xs = [] := List.eq_nil_of_length_eq_zero (by simpa using h.1)
    subst this
    exact ⟨none, 0, rfl, Has.nil _ _ _, Nat.le_refl _⟩
  · refine ⟨_, cap, rfl, ⟨by simpa using h.1, fun hn => ?_⟩, hnc⟩
    obtain ⟨g', cap', hv, _, hlt, hc⟩ := owns_cell hx hn
    injection hv with hv1 hv2 hv3
    injection hv1 with hv1
    injection hv1 with hv1
    subst hv1
    exact ⟨g, 0, rfl, hlt, fun j hj => by rw [Nat.zero_add]; exact hc j hj⟩
theorem Has.at_ (h : Has w B A n xs) {k : Nat} (hk : k < n) : ∃ b off, A = some ⟨b, off, none⟩ ∧ b < B ∧ w.cell? ⟨b, off + k, none⟩ = some (xs[k]'(by rw [h.1]; exact hk)) := by
  obtain ⟨b, off, e, hb, hc⟩ := h.2 (by omega)
  exact ⟨b, off, e, hb, hc k _⟩
/-- Two cells of a new block. -/
theorem Has.two (w : World) (u v : Value) (t : TypeId) : Has (w.alloc (.cells #[u, v] t)) (w.heap.size + 1) (some ⟨w.heap.size, 0, none⟩) 2 [u, v] :=
  ⟨rfl, fun _ => ⟨w.heap.size, 0, rfl, by omega, fun j hj => by
    rw [World.cell?_alloc_at _ _ _ _ rfl, Nat.zero_add]
    match j, hj with
    | 0, _ => rfl
    | 1, _ => rfl⟩⟩
end
end

section
open Go.RowKit

structure Dsk where
  st : Nat → List UInt8
  ca : Nat → Option (List UInt8)
  fs : List (Int × Int)
  cnt : Int
  off : Bool

def upd {α : Type} (f : Nat → α) (i : Nat) (x : α) : Nat → α := fun j => if j = i then x else f j
theorem upd_same {α : Type} (f : Nat → α) (i : Nat) (x : α) : upd f i x i = x := by simp [upd]
theorem upd_other {α : Type} (f : Nat → α) {i j : Nat} (x : α) (h : j ≠ i) : upd f i x j = f j := by simp [upd, h]

/-- All sectors, one behind the other. -/
def flat (n : Nat) (st : Nat → List UInt8) : List UInt8 := (List.range n).flatMap st
theorem flat_zero (st : Nat → List UInt8) : flat 0 st = [] := rfl
theorem flat_succ (n : Nat) (st : Nat → List UInt8) : flat (n + 1) st = flat n st ++ st n := by
  simp [flat, List.range_succ]
theorem flat_length {n : Nat} {st : Nat → List UInt8} (h : ∀ i, i < n → (st i).length = 64) : (flat n st).length = 64 * n := by
  induction n with
  | zero => rfl
  | succ n ih =>
    rw [flat_succ, List.length_append, ih fun i hi => h i (by omega), h n (by omega)]
    omega
theorem flat_get {n : Nat} {st : Nat → List UInt8} (h : ∀ i, i < n → (st i).length = 64) {i j : Nat} (hi : i < n) (hj : j < 64) : (flat n st)[64 * i + j]? = (st i)[j]? := by
  induction n with
  | zero => omega
  | succ n ih =>
    have hl := flat_length (n := n) (st := st) fun i hi => h i (by omega)
    rw [flat_succ]
    by_cases hin : i < n
    · rw [List.getElem?_append_left (by omega)]
      exact ih (fun i hi => h i (by omega)) hin
    · have : i = n := by omega
      subst this
      rw [List.getElem?_append_right (by omega), hl]
      congr 1
      omega
theorem flat_congr {n : Nat} {st st' : Nat → List UInt8} (h : ∀ i, i < n → st i = st' i) : flat n st = flat n st' := by
  induction n with
  | zero => rfl
  | succ n ih => rw [flat_succ, flat_succ, ih fun i hi => h i (by omega), h n (by omega)]
theorem splice_get {α : Type} (L cs : List α) (off p : Nat) (h : off + cs.length ≤ L.length) : (splice L off cs)[p]? = if p < off then L[p]? else if p < off + cs.length then cs[p - off]? else L[p]? := by
  unfold splice
  have ht : (L.take off).length = off := by simp; omega
  split
  · rename_i h1
    rw [List.getElem?_append_left (by omega), List.getElem?_take, if_pos h1]
  · rename_i h1
    rw [List.getElem?_append_right (by omega), ht]
    split
    · rename_i h2
      rw [List.getElem?_append_left (by omega)]
    · rename_i h2
      rw [List.getElem?_append_right (by omega), List.getElem?_drop]
      congr 1
      omega
/-- What stands in a sector of which the first bytes were written. -/
def onto (xs old : List UInt8) : List UInt8 := xs ++ old.drop xs.length
theorem onto_length {xs old : List UInt8} (h : xs.length ≤ old.length) : (onto xs old).length = old.length := by simp [onto]; omega
theorem onto_whole {xs old : List UInt8} (h : old.length ≤ xs.length) : onto xs old = xs := by simp [onto, List.drop_of_length_le h]
theorem flat_splice {n : Nat} {st : Nat → List UInt8} (h : ∀ i, i < n → (st i).length = 64) {i : Nat} (hi : i < n) {xs : List UInt8} (hx : xs.length ≤ 64) :
    splice (flat n st) (64 * i) xs = flat n (upd st i (onto xs (st i))) := by
  have h' : ∀ k, k < n → (upd st i (onto xs (st i)) k).length = 64 := by
    intro k hk
    by_cases hki : k = i
    · subst hki; rw [upd_same, onto_length (by rw [h k hk]; exact hx), h k hk]
    · rw [upd_other _ _ hki, h k hk]
  have hl := flat_length h
  have hl' := flat_length h'
  have hfit : 64 * i + xs.length ≤ (flat n st).length := by rw [hl]; omega
  apply List.ext_getElem?
  intro p
  rw [splice_get _ _ _ _ hfit]
  by_cases hp : p < 64 * n
  · have hpk : p / 64 < n := by omega
    have hpj : p % 64 < 64 := by omega
    have hpe : p = 64 * (p / 64) + p % 64 := by omega
    have g1 := flat_get h hpk hpj
    have g2 := flat_get h' hpk hpj
    rw [← hpe] at g1 g2
    rw [g2]
    by_cases hki : p / 64 = i
    · rw [hki, upd_same]
      rw [if_neg (by omega)]
      unfold onto
      split
      · rw [List.getElem?_append_left (by omega)]
        congr 1
        omega
      · rw [List.getElem?_append_right (by omega), List.getElem?_drop, g1, hki]
        congr 1
        omega
    · rw [upd_other _ _ hki]
      split
      · exact g1
      · rw [if_neg (by omega)]; exact g1
  · rw [List.getElem?_eq_none (by omega : (flat n (upd st i (onto xs (st i)))).length ≤ p), if_neg (by omega), if_neg (by omega), List.getElem?_eq_none (by omega)]
theorem flat_sub {n : Nat} {st : Nat → List UInt8} (h : ∀ i, i < n → (st i).length = 64) {i : Nat} (hi : i < n) : ((flat n st).drop (64 * i)).take 64 = st i := by
  apply List.ext_getElem?
  intro j
  rw [List.getElem?_take]
  split
  · rename_i hj
    rw [List.getElem?_drop, flat_get h hi hj]
  · rw [List.getElem?_eq_none (by rw [h i hi]; omega)]

/-- The kind of the fault of an operation; of several the first one. -/
def fk (fs : List (Int × Int)) (c : Int) : Int := ((fs.find? fun f => f.1 == c).map (·.2)).getD 0
theorem fk_nil (c : Int) : fk [] c = 0 := rfl
theorem fk_cons (f : Int × Int) (fs : List (Int × Int)) (c : Int) : fk (f :: fs) c = if f.1 = c then f.2 else fk fs c := by
  unfold fk
  by_cases h : f.1 = c <;> simp [h]

def Dsk.tick (S : Dsk) : Dsk := { S with cnt := wrap64 (S.cnt + 1) }
def Dsk.cut (S : Dsk) : Dsk := { S with off := true }
def Dsk.kind (S : Dsk) : Int := fk S.fs S.cnt
/-- The error of an operation that has no effect, else 0. -/
def Dsk.err (S : Dsk) (ok : Bool) : Int := if S.off then 10 else if ok then (if S.kind = 1 then 9 else 0) else 2
def Dsk.pow (S : Dsk) (ok : Bool) : Bool := !S.off && ok && decide (S.kind = 2)
def Dsk.begun (S : Dsk) (ok : Bool) : Dsk := if S.off then S else if ok then S.tick else S
def inR (n : Nat) (i : Int) : Bool := decide (0 ≤ i) && decide (i < n)
def Dsk.sec (S : Dsk) (i : Nat) : List UInt8 := (S.ca i).getD (S.st i)
/-- The error that an operation answers. -/
def Dsk.ans (S : Dsk) (ok : Bool) : Int := if S.err ok ≠ 0 then S.err ok else if S.pow ok then 10 else 0
/-- The disk behind an operation that changes nothing else. -/
def Dsk.done (S : Dsk) (ok : Bool) : Dsk := if S.err ok ≠ 0 then S.begun ok else if S.pow ok then (S.begun ok).cut else S.begun ok
def Dsk.put (S : Dsk) (i : Nat) (xs : List UInt8) : Dsk := { S with ca := upd S.ca i (some xs) }
def Dsk.wrote (S : Dsk) (ok : Bool) (i : Nat) (xs : List UInt8) : Dsk := if S.err ok ≠ 0 then S.begun ok else (S.done ok).put i xs
def Dsk.flush (S : Dsk) : Dsk := { S with st := fun i => S.sec i, ca := fun _ => none }
def Dsk.synced (S : Dsk) : Dsk := if S.ans true ≠ 0 then S.done true else (S.done true).flush
def Dsk.armed (S : Dsk) (fs : List (Int × Int)) : Dsk := { S with fs := fs, cnt := 0 }
/-- The number of bytes that are kept of a sector. -/
def kb (b : Int) : Nat := (min (max b 0) 64).toNat
theorem kb_le (b : Int) : kb b ≤ 64 := by unfold kb; omega
def keep1 (ca : Nat → Option (List UInt8)) (st : Nat → List UInt8) (k : Int × Int) : Nat → List UInt8 :=
  if k.1 < 0 then st else match ca k.1.toNat with
  | none => st
  | some xs => upd st k.1.toNat (onto (xs.take (kb k.2)) (st k.1.toNat))
def Dsk.restarted (S : Dsk) (ks : List (Int × Int)) : Dsk := { st := ks.foldl (keep1 S.ca) S.st, ca := fun _ => none, fs := [], cnt := 0, off := false }
def dirty (n : Nat) (ca : Nat → Option (List UInt8)) : List Nat := (List.range n).filter fun i => (ca i).isSome
/-- A new disk. -/
def Dsk.fresh (st : Nat → List UInt8) : Dsk := { st := st, ca := fun _ => none, fs := [], cnt := 0, off := false }

/-- What lies within the bounds. -/
structure Dsk.Ok (n : Nat) (S : Dsk) : Prop where
  n1 : 1 ≤ n
  n4 : n ≤ 4096
  st : ∀ i, i < n → (S.st i).length = 64
  ca : ∀ i xs, S.ca i = some xs → i < n ∧ xs.length = 64
  c0 : -9223372036854775808 ≤ S.cnt
  c1 : S.cnt ≤ 9223372036854775807
theorem Dsk.Ok.cut {n : Nat} {S : Dsk} (h : S.Ok n) : S.cut.Ok n := ⟨h.n1, h.n4, h.st, h.ca, h.c0, h.c1⟩
theorem Dsk.Ok.tick {n : Nat} {S : Dsk} (h : S.Ok n) : S.tick.Ok n := ⟨h.n1, h.n4, h.st, h.ca, by simp only [Dsk.tick, wrap64]; omega, by simp only [Dsk.tick, wrap64]; omega⟩
theorem Dsk.Ok.begun {n : Nat} {S : Dsk} (h : S.Ok n) (ok : Bool) : (S.begun ok).Ok n := by
  unfold Dsk.begun
  split
  · exact h
  · split
    · exact h.tick
    · exact h
theorem Dsk.Ok.done {n : Nat} {S : Dsk} (h : S.Ok n) (ok : Bool) : (S.done ok).Ok n := by
  unfold Dsk.done
  split
  · exact h.begun ok
  · split
    · exact (h.begun ok).cut
    · exact h.begun ok
theorem Dsk.Ok.put {n : Nat} {S : Dsk} (h : S.Ok n) {i : Nat} (hi : i < n) {xs : List UInt8} (hx : xs.length = 64) : (S.put i xs).Ok n := by
  refine ⟨h.n1, h.n4, h.st, fun j ys hj => ?_, h.c0, h.c1⟩
  by_cases hji : j = i
  · subst hji
    simp only [Dsk.put, upd_same, Option.some.injEq] at hj
    subst hj
    exact ⟨hi, hx⟩
  · simp only [Dsk.put, upd_other _ _ hji] at hj
    exact h.ca j ys hj
theorem Dsk.Ok.sec {n : Nat} {S : Dsk} (h : S.Ok n) {i : Nat} (hi : i < n) : (S.sec i).length = 64 := by
  unfold Dsk.sec
  cases hc : S.ca i with
  | none => exact h.st i hi
  | some xs => exact (h.ca i xs hc).2
theorem Dsk.Ok.flush {n : Nat} {S : Dsk} (h : S.Ok n) : S.flush.Ok n := ⟨h.n1, h.n4, fun _ hi => h.sec hi, fun _ _ h => by simp [Dsk.flush] at h, h.c0, h.c1⟩
theorem Dsk.Ok.armed {n : Nat} {S : Dsk} (h : S.Ok n) (fs : List (Int × Int)) : (S.armed fs).Ok n := ⟨h.n1, h.n4, h.st, h.ca, by simp [Dsk.armed], by simp [Dsk.armed]⟩
theorem keep1_len {n : Nat} {ca : Nat → Option (List UInt8)} {st : Nat → List UInt8} (hc : ∀ i xs, ca i = some xs → i < n ∧ xs.length = 64) (hs : ∀ i, i < n → (st i).length = 64) (k : Int × Int) :
    ∀ i, i < n → (keep1 ca st k i).length = 64 := by
  intro i hi
  unfold keep1
  by_cases hk : k.1 < 0
  · rw [if_pos hk]; exact hs i hi
  · rw [if_neg hk]
    cases hx : ca k.1.toNat with
    | none => exact hs i hi
    | some xs =>
      obtain ⟨h1, h2⟩ := hc _ _ hx
      by_cases hik : i = k.1.toNat
      · subst hik
        simp only [upd_same]
        rw [onto_length (by rw [hs _ hi]; have := kb_le k.2; simp; omega), hs _ hi]
      · simp only [upd_other _ _ hik]
        exact hs i hi
theorem keeps_len {n : Nat} {ca : Nat → Option (List UInt8)} (hc : ∀ i xs, ca i = some xs → i < n ∧ xs.length = 64) (ks : List (Int × Int)) : ∀ (st : Nat → List UInt8), (∀ i, i < n → (st i).length = 64) →
    ∀ i, i < n → (ks.foldl (keep1 ca) st i).length = 64 := by
  induction ks with
  | nil => intro st hs; exact hs
  | cons k ks ih => intro st hs; exact ih _ (keep1_len hc hs k)
theorem Dsk.Ok.restarted {n : Nat} {S : Dsk} (h : S.Ok n) (ks : List (Int × Int)) : (S.restarted ks).Ok n :=
  ⟨h.n1, h.n4, keeps_len h.ca ks S.st h.st, fun _ _ h => by simp [Dsk.restarted] at h, by simp [Dsk.restarted], by simp [Dsk.restarted]⟩
theorem Dsk.Ok.fresh {n : Nat} {st : Nat → List UInt8} (h1 : 1 ≤ n) (h4 : n ≤ 4096) (hs : ∀ i, i < n → (st i).length = 64) : (Dsk.fresh st).Ok n :=
  ⟨h1, h4, hs, fun _ _ h => by simp [Dsk.fresh] at h, by simp [Dsk.fresh], by simp [Dsk.fresh]⟩
end

section
open Go.RowKit

def xvalid (n : Nat) (f c : Int) : Bool := decide (0 ≤ f) && decide (1 ≤ c) && decide (f + c ≤ n)
def xsize (c : Int) : Int := if c < 0 ∨ 4096 < c then 0 else c * 64
/-- The error of a range that needs no operation. -/
def xerr (n : Nat) (f c off m : Int) : Int := if xvalid n f c = false then 1 else if off < 0 ∨ m < 0 ∨ c * 64 - off < m then 2 else 0

/-- How many of m bytes from off on lie in the first sector. -/
def cklen (off m : Nat) : Nat := min m (64 - off % 64)
theorem cklen_pos {off m : Nat} (h : 0 < m) : 0 < cklen off m := by unfold cklen; omega
theorem cklen_le (off m : Nat) : cklen off m ≤ m := by unfold cklen; omega
theorem cklen_64 (off m : Nat) : off % 64 + cklen off m ≤ 64 := by unfold cklen; omega
/-- The parts of sectors in which m bytes from off on lie: sector, first byte, number of bytes. -/
def chs : Nat → Nat → Nat → List (Nat × Nat × Nat)
  | 0, _, _ => []
  | fu + 1, off, m => if m = 0 then [] else (off / 64, off % 64, cklen off m) :: chs fu (off + cklen off m) (m - cklen off m)
theorem chs_nil (fu off : Nat) : chs fu off 0 = [] := by cases fu <;> simp [chs]
theorem chs_fuel (fu : Nat) : ∀ fv off m, m ≤ fu → m ≤ fv → chs fu off m = chs fv off m := by
  induction fu with
  | zero => intro fv off m h _; obtain rfl : m = 0 := by omega
            rw [chs_nil, chs_nil]
  | succ fu ih =>
    intro fv off m h1 h2
    by_cases hm : m = 0
    · subst hm; rw [chs_nil, chs_nil]
    · cases fv with
      | zero => omega
      | succ fv =>
        have := cklen_pos (off := off) (m := m) (by omega)
        simp only [chs, if_neg hm]
        rw [ih fv _ _ (by omega) (by omega)]
def ck (off m : Nat) : List (Nat × Nat × Nat) := chs m off m
theorem ck_zero (off : Nat) : ck off 0 = [] := rfl
theorem ck_pos {off m : Nat} (h : 0 < m) : ck off m = (off / 64, off % 64, cklen off m) :: ck (off + cklen off m) (m - cklen off m) := by
  unfold ck
  obtain ⟨k, rfl⟩ : ∃ k, m = k + 1 := ⟨m - 1, by omega⟩
  have := cklen_pos (off := off) (m := k + 1) (by omega)
  simp only [chs, if_neg (show ¬ k + 1 = 0 by omega)]
  rw [chs_fuel k (k + 1 - cklen off (k + 1)) _ _ (by omega) (Nat.le_refl _)]
/-- The parts, counted by sectors. -/
def cki (off m i : Nat) : List (Nat × Nat × Nat) := ck (max off (64 * i)) (off + m - max off (64 * i))
theorem cki_start (off m : Nat) : cki off m (off / 64) = ck off m := by
  unfold cki
  have : max off (64 * (off / 64)) = off := by omega
  rw [this, show off + m - off = m by omega]
theorem cki_none (off : Nat) : cki off 0 0 = [] := by
  unfold cki
  have : off + 0 - max off (64 * 0) = 0 := by omega
  rw [this, ck_zero]
theorem cki_end {off m i : Nat} (h : off + m ≤ 64 * i) : cki off m i = [] := by
  unfold cki
  have : off + m - max off (64 * i) = 0 := by omega
  rw [this, ck_zero]
def pfrom (off i : Nat) : Nat := off - 64 * i
def pto (off m i : Nat) : Nat := min (off + m - 64 * i) 64
theorem cki_step {off m i : Nat} (h0 : off / 64 ≤ i) (hm : 0 < m) (h1 : 64 * i < off + m) : cki off m i = (i, pfrom off i, pto off m i - pfrom off i) :: cki off m (i + 1) := by
  unfold cki
  have hr : 0 < off + m - max off (64 * i) := by omega
  rw [ck_pos hr]
  have e1 : max off (64 * i) / 64 = i := by omega
  have e2 : max off (64 * i) % 64 = pfrom off i := by unfold pfrom; omega
  have e3 : cklen (max off (64 * i)) (off + m - max off (64 * i)) = pto off m i - pfrom off i := by unfold cklen pto; rw [e2]; unfold pfrom; omega
  rw [e1, e3, e2]
  congr 1
  by_cases hc : 64 * (i + 1) ≤ off + m
  · have g1 : max off (64 * i) + (pto off m i - pfrom off i) = max off (64 * (i + 1)) := by unfold pto pfrom; omega
    rw [g1, show off + m - max off (64 * i) - (pto off m i - pfrom off i) = off + m - max off (64 * (i + 1)) by unfold pto pfrom; omega]
  · have g1 : off + m - max off (64 * i) - (pto off m i - pfrom off i) = 0 := by unfold pto pfrom; omega
    have g2 : off + m - max off (64 * (i + 1)) = 0 := by omega
    rw [g1, g2, ck_zero, ck_zero]
theorem pfrom_le {off m i : Nat} (h0 : off / 64 ≤ i) (hm : 0 < m) (h1 : 64 * i < off + m) : pfrom off i < pto off m i ∧ pto off m i ≤ 64 := by unfold pfrom pto; omega

/-- Reading parts. -/
def rdc (f : Nat) : List (Nat × Nat × Nat) → Dsk → List UInt8 → Dsk × Int × List UInt8
  | [], S, acc => (S, 0, acc)
  | c :: cs, S, acc => if S.ans true ≠ 0 then (S.done true, S.ans true, []) else rdc f cs (S.done true) (acc ++ ((S.sec (f + c.1)).drop c.2.1).take c.2.2)
/-- Replacing bytes of a sector. -/
def Dsk.repl (S : Dsk) (i p : Nat) (xs : List UInt8) : Dsk × Int :=
  if xs.length = 64 then (S.wrote true i xs, S.ans true)
  else if S.ans true ≠ 0 then (S.done true, S.ans true)
  else ((S.done true).wrote true i (splice (S.sec i) p xs), (S.done true).ans true)
/-- Writing parts. -/
def wrc (f : Nat) : List (Nat × Nat × Nat) → Dsk → List UInt8 → Dsk × Int
  | [], S, _ => (S, 0)
  | c :: cs, S, d => if (S.repl (f + c.1) c.2.1 (d.take c.2.2)).2 ≠ 0 then S.repl (f + c.1) c.2.1 (d.take c.2.2) else wrc f cs (S.repl (f + c.1) c.2.1 (d.take c.2.2)).1 (d.drop c.2.2)
def Dsk.xread (S : Dsk) (n : Nat) (f c off m : Int) : Dsk × Int × List UInt8 := if xerr n f c off m ≠ 0 then (S, xerr n f c off m, []) else rdc f.toNat (ck off.toNat m.toNat) S []
def Dsk.xwrite (S : Dsk) (n : Nat) (f c off : Int) (d : List UInt8) : Dsk × Int := if xerr n f c off d.length ≠ 0 then (S, xerr n f c off d.length) else wrc f.toNat (ck off.toNat d.length) S d
theorem Dsk.Ok.wrote {n : Nat} {S : Dsk} (h : S.Ok n) (ok : Bool) {i : Nat} (hi : i < n) {xs : List UInt8} (hx : xs.length = 64) : (S.wrote ok i xs).Ok n := by
  unfold Dsk.wrote
  split
  · exact h.begun ok
  · exact (h.done ok).put hi hx
theorem splice_len {α : Type} {L cs : List α} {off : Nat} (h : off + cs.length ≤ L.length) : (splice L off cs).length = L.length := by
  unfold splice
  simp
  omega
theorem sec_done (S : Dsk) (ok : Bool) (i : Nat) : (S.done ok).sec i = S.sec i := by
  unfold Dsk.done Dsk.begun Dsk.tick Dsk.cut Dsk.sec
  repeat' split
  all_goals rfl
theorem xerr_fine {n : Nat} {f c off m : Int} (h : xerr n f c off m = 0) : ∃ f' c' off' m' : Nat, f = f' ∧ c = c' ∧ off = off' ∧ m = m' ∧ 1 ≤ c' ∧ f' + c' ≤ n ∧ off' + m' ≤ 64 * c' := by
  unfold xerr at h
  split at h
  · cases h
  · rename_i hv
    split at h
    · cases h
    · rename_i h2
      simp [xvalid] at hv
      exact ⟨f.toNat, c.toNat, off.toNat, m.toNat, by omega, by omega, by omega, by omega, by omega, by omega, by omega⟩
end

end Go.Proofs.Ytbcfjkfkkklgbaa
