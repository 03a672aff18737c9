/-
  Small lemmas without a program: strings as lists of bytes, endings, slices of strings in memory.
-/
import Derived.WalkKit
import Derived.WalkSpells
import Derived.WalkLawsBesides
import Derived.Lib.Hide
import Derived.Laws.BytesArg
namespace Go.Proofs.Ytmfoegpdjajicaa
open Go.RowKit

theorem ret_bool {a b : Bool} (h : a = b) : Ending.returned (.bool a) = .returned (.bool b) := by rw [h]
theorem ret_int {k : IntKind} {a b : Int} (h : a = b) : Ending.returned (.int k a) = .returned (.int k b) := by rw [h]
theorem ret_str {a b : ByteArray} (h : a = b) : Ending.returned (.string a) = .returned (.string b) := by rw [h]

/-- A string's bytes as a list, and back. -/
def ls (s : ByteArray) : List UInt8 := s.data.toList
def bs (l : List UInt8) : ByteArray := ⟨l.toArray⟩
theorem ls_bs (l : List UInt8) : ls (bs l) = l := rfl
theorem bs_ls (s : ByteArray) : bs (ls s) = s := by cases s; rfl
theorem ls_inj {a b : ByteArray} (h : ls a = ls b) : a = b := by rw [← bs_ls a, ← bs_ls b, h]
theorem toList_ls (s : ByteArray) : s.toList = ls s := ByteArray.toList_eq s
theorem ls_length (s : ByteArray) : (ls s).length = s.size := by cases s; rfl
theorem bs_size (l : List UInt8) : (bs l).size = l.length := by rw [← ls_length, ls_bs]
theorem ls_append (a b : ByteArray) : ls (a ++ b) = ls a ++ ls b := by simp [ls, ByteArray.data_append]
theorem ls_get (s : ByteArray) (k : Nat) (h : k < s.size) : (ls s)[k]? = some s[k] := by
  have h' : k < (ls s).length := by rw [ls_length]; exact h
  rw [List.getElem?_eq_getElem h']; rfl
theorem ls_getE (s : ByteArray) (k : Nat) (_h : k < s.size) (h' : k < (ls s).length) : (ls s)[k] = s[k] := rfl
theorem ls_extract (s : ByteArray) (a b : Nat) : ls (s.extract a b) = ((ls s).drop a).take (b - a) := by
  simp [ls, ByteArray.data_extract]
theorem take_ls_succ (s : ByteArray) (k : Nat) (h : k < s.size) : (ls s).take (k + 1) = (ls s).take k ++ [s[k]] := by
  rw [List.take_succ_eq_append_getElem (by rw [ls_length]; exact h)]; rfl
theorem take_ls_all (s : ByteArray) : (ls s).take s.size = ls s := by rw [← ls_length, List.take_length]
theorem drop_ls_cons (s : ByteArray) (k : Nat) (h : k < s.size) : (ls s).drop k = s[k] :: (ls s).drop (k + 1) := by
  rw [List.drop_eq_getElem_cons (by rw [ls_length]; exact h)]; rfl
theorem drop_ls_all (s : ByteArray) : (ls s).drop s.size = [] := by rw [← ls_length, List.drop_length]
theorem byte_lt (c : UInt8) : (c.toNat : Int) < 256 := by have := c.toNat_lt; omega
/-- A byte as the walk's number. -/
def bv (c : UInt8) : Value := .int .u8 (c.toNat : Int)
theorem bv_eq (c : UInt8) : bv c = .int .u8 (c.toNat : Int) := rfl

/-- 'make([]byte, n)' leaves this. -/
def zeros (n : Nat) : Array Value := Array.replicate n (.int .u8 0)
theorem made_u8 (n : Nat) : madeCells #[.int .u8 0] n = zeros n := by
  apply Array.ext
  · simp [madeCells, zeros]
  · intro i h1 h2
    simp [madeCells, zeros, Nat.mod_one]

/-- A made row of bytes of which the first ones are written. -/
def fillRow (l : List UInt8) (n k : Nat) : Array Value := ((l.take k).map bv ++ List.replicate (n - k) (Value.int .u8 0)).toArray
theorem fillRow_zero (l : List UInt8) (n : Nat) : fillRow l n 0 = zeros n := by simp [fillRow, zeros]
theorem fillRow_size (l : List UInt8) (n k : Nat) (h : l.length = n) (hk : k ≤ n) : (fillRow l n k).size = n := by
  simp [fillRow]; omega
theorem fillRow_next (l : List UInt8) (n k : Nat) (h : l.length = n) (hk : k < n) : (fillRow l n k)[k]? = some (.int .u8 0) := by
  simp only [fillRow, List.getElem?_toArray]
  rw [List.getElem?_append_right (by simp; omega)]
  simp only [List.length_map, List.length_take]
  rw [List.getElem?_replicate, if_pos (by omega)]
theorem fillRow_set (l : List UInt8) (n k : Nat) (h : l.length = n) (hk : k < n) (c : UInt8) (hc : l[k]? = some c) :
    (fillRow l n k).setIfInBounds k (.int .u8 (c.toNat : Int)) = fillRow l n (k + 1) := by
  have hlk : k < l.length := by omega
  have hc' : l[k] = c := by rw [List.getElem?_eq_getElem hlk] at hc; exact Option.some.inj hc
  simp only [fillRow, List.setIfInBounds_toArray]
  congr 1
  rw [List.set_append_right _ _ (by simp; omega)]
  simp only [List.length_map, List.length_take]
  rw [List.take_succ_eq_append_getElem hlk, hc']
  rw [show n - k = (n - (k + 1)) + 1 by omega, show k - min k l.length = 0 by omega]
  simp [List.replicate_succ, bv]
theorem fillRow_all (l : List UInt8) (n j : Nat) (h : l.length = n) (hj : j < n) : (fillRow l n n)[j]? = some (.int .u8 ((l.map fun c => (c.toNat : Int)).getD j 0)) := by
  have hlj : j < l.length := by omega
  simp only [fillRow, List.getElem?_toArray]
  rw [List.getElem?_append_left (by simp; omega)]
  simp [List.take_of_length_le (Nat.le_of_eq h), bv, List.getD, List.getElem?_eq_getElem hlj]
theorem strOfNums_bytes (l : List UInt8) : strOfNums (l.map fun c => (c.toNat : Int)) = bs l := by
  have e : ((fun n : Int => UInt8.ofNat n.toNat) ∘ fun c : UInt8 => (c.toNat : Int)) = id := by funext c; simp
  simp [strOfNums, bs, e]

/-- What lies below: the row that a value owns lies from 'base' on. -/
theorem owns_below {w0 w w' : World} {base e size n : Nat} {v : Value} {xs : List Value} (hown : w.ownsRow base e size v n xs) (hb : Below base w0 w) (hbase : base ≤ w.heap.size) (hg : w.grownBy w' v.ownBlock) : Below base w0 w' :=
  hb.grown hg hbase fun k hk => (hown.lt k hk).1

theorem grownBy_trans {a b c : World} {row : Option Nat} (h : a.grownBy b row) (k : b.grownBy c row) : a.grownBy c row :=
  ⟨k.os.trans h.os, k.tape.trans h.tape, k.output.trans h.output, Nat.le_trans h.size k.size, fun i hi hne => (k.block i (Nat.lt_of_lt_of_le hi h.size) hne).trans (h.block i hi hne)⟩
/-- Two rows of different element types lie in different blocks. -/
theorem owns_ne {w : World} {base base' e e' size size' n n' : Nat} {v v' : Value} {xs xs' : List Value} (h : w.ownsRow base e size v n xs) (h' : w.ownsRow base' e' size' v' n' xs') (hne : e ≠ e') :
    v.ownBlock = none ∨ v.ownBlock ≠ v'.ownBlock := by
  rcases h.2 with ⟨rfl, _⟩ | ⟨g, cap, cur, rfl, _, hg, _⟩
  · exact .inl rfl
  · right
    rcases h'.2 with ⟨rfl, _⟩ | ⟨g', cap', cur', rfl, _, hg', _⟩
    · simp [Value.ownBlock]
    · intro he
      simp [Value.ownBlock] at he
      subst he
      rw [hg] at hg'
      simp at hg'
      exact hne hg'.2

/-- append(out, u) of one value of one cell: behind 'buildSlice'. -/
theorem wpList_app_one {P : Program} {w0 : World} (wr : World) {ops : Array Oper} {rest : List Oper} {o : Oper} {a : Act} {Q : Exit → Act → World → Prop} (hgd : o.guard = none) (s x : Operand) (t : TypeId)
    (ho : o.op = .call { callee := .builtin .append, args := #[s, x], argTypes := #[t, t] })
    (base : Nat) (e : TypeId) (i : TypeInfo) (z : Value) (bytes : Nat) (ht : P.underlying t = some (.slice e)) (hi : P.info? e = some i) (hz : i.zero = some z)
    (hsize : i.size = 1) (hby : i.bytes = bytes) (hzs : z.cells.size = 1) (u : Value) (hu : u.oneCell' = true)
    (v : Value) (n : Nat) (xs : List Value) (hs : a.eval s = v) (hown : wr.ownsRow base e 1 v n xs) (hx : a.eval x = .slice (some ⟨wr.heap.size, 0, none⟩) 1 1)
    (h63 : n + 1 ≤ maxLen) (hbytes : (n + 1) * bytes ≤ 140737488355328) (hb : Below base w0 wr) (hbase : base ≤ w0.heap.size)
    (h : ∀ v' w', w'.ownsRow base e 1 v' (n + 1) (xs ++ [u]) → Below base w0 w' → wr.grownBy w' v.ownBlock → wpList P ops Q rest (a.put o.dst v') w') : wpList P ops Q (o :: rest) a (wr.alloc (.cells #[u] e)) := by
  have hsz := hb.size
  have hbw : base ≤ wr.heap.size := by omega
  refine wpList_append_own _ hgd s x t ho base e i z 1 bytes ht hi hz hsize hby hzs (by decide) v n xs hs (hown.alloc _) ⟨wr.heap.size, 0, none⟩ 1 1 [u] hx rfl ?_ ?_ h63 hbytes (by simp; omega) ?_
  · intro j q hj
    match j, hj with
    | 0, hj =>
      simp at hj
      subst hj
      simp [Addr.add, World.cell?_alloc_at _ _ _ _ rfl]
  · intro q hq
    simp at hq
    subst hq
    exact hu
  · intro v' w' hown' hgrow _
    exact h v' w' hown' (owns_below (hown.alloc _) (hb.alloc hbw _) (by simp; omega) hgrow) (grownBy_trans (World.grownBy_alloc wr _ _) hgrow)

/-- The cells of a row that a value owns, one by one. -/
theorem owns_cell {w : World} {base e n : Nat} {v : Value} {xs : List Value} (h : w.ownsRow base e 1 v n xs) (hn : 0 < n) :
    ∃ g cap, v = .slice (some ⟨g, 0, none⟩) n cap ∧ base ≤ g ∧ g < w.heap.size ∧ ∀ j (hj : j < xs.length), w.cell? ⟨g, j, none⟩ = some xs[j] := by
  rcases h.2 with ⟨rfl, h0⟩ | ⟨g, cap, cur, rfl, hb, hg, hnc, _, _, htake⟩
  · omega
  · refine ⟨g, cap, rfl, hb, (Array.getElem?_eq_some_iff.1 hg).1, fun j hj => ?_⟩
    have := h.cells (g := g) rfl j xs[j] (List.getElem?_eq_getElem hj)
    have hadd : (⟨g, 0, none⟩ : Addr).add j = ⟨g, j, none⟩ := by unfold Addr.add; split <;> simp_all
    rwa [hadd] at this

/-- A slice that reads as a list of values of one cell; below block B. -/
def Has (w : World) (B : Nat) (A : Option Addr) (n : Nat) (xs : List Value) : Prop :=
  xs.length = n ∧ (0 < n → ∃ b off, A = some ⟨b, off, none⟩ ∧ b < B ∧ ∀ j (h : j < xs.length), w.cell? ⟨b, off + j, none⟩ = some xs[j])
section
variable {w w' : World} {B B' n : Nat} {A : Option Addr} {xs : List Value}
theorem Has.nil (w : World) (B : Nat) (A : Option Addr) : Has w B A 0 [] := ⟨rfl, fun h => absurd h (by omega)⟩
theorem Has.keep (h : Has w B A n xs) (hk : ∀ p : Addr, p.block < B → w'.cell? p = w.cell? p) : Has w' B A n xs :=
  ⟨h.1, fun hn => by
    obtain ⟨b, off, e, hb, hc⟩ := h.2 hn
    exact ⟨b, off, e, hb, fun j hj => (hk _ hb).trans (hc j hj)⟩⟩
theorem Has.more (h : Has w B A n xs) (hB : B ≤ B') : Has w B' A n xs :=
  ⟨h.1, fun hn => by
    obtain ⟨b, off, e, hb, hc⟩ := h.2 hn
    exact ⟨b, off, e, by omega, hc⟩⟩
theorem Has.below (h : Has w B A n xs) (hb : Below B w w') : Has w' B A n xs := h.keep fun _ hp => hb.cell hp
theorem Has.below' (h : Has w B A n xs) (hb : Below B' w w') (hB : B ≤ B') : Has w' B A n xs := h.keep fun _ hp => hb.cell (by omega)
theorem Has.drewN (h : Has w B A n xs) (k : Nat) : Has (w.drewN k) B A n xs := h
theorem Has.alloc (h : Has w B A n xs) (hB : B ≤ w.heap.size) (o : Obj) : Has (w.alloc o) B A n xs := h.keep fun p hp => World.cell?_alloc_lt w o p (by omega)
theorem Has.of_own {base : Nat} {e : TypeId} {v : Value} (h : w.ownsRow base e 1 v n xs) : ∃ A c, v = .slice A n c ∧ Has w w.heap.size A n xs ∧ n ≤ c := by
  have hx := h
  rcases h.2 with ⟨rfl, rfl⟩ | ⟨g, cap, cur, rfl, hb, hg, hnc, _⟩
  · have : xs = [] := List.eq_nil_of_length_eq_zero (by simpa using h.1)
    subst this
    exact ⟨none, 0, rfl, Has.nil _ _ _, Nat.le_refl _⟩
  · refine ⟨_, cap, rfl, ⟨by simpa using h.1, fun hn => ?_⟩, hnc⟩
    obtain ⟨g', cap', hv, _, hlt, hc⟩ := owns_cell hx hn
    injection hv with hv1 hv2 hv3
    injection hv1 with hv1
    injection hv1 with hv1
    subst hv1
    exact ⟨g, 0, rfl, hlt, fun j hj => by rw [Nat.zero_add]; exact hc j hj⟩
theorem Has.at_ (h : Has w B A n xs) {k : Nat} (hk : k < n) : ∃ b off, A = some ⟨b, off, none⟩ ∧ b < B ∧ w.cell? ⟨b, off + k, none⟩ = some (xs[k]'(by rw [h.1]; exact hk)) := by
  obtain ⟨b, off, e, hb, hc⟩ := h.2 (by omega)
  exact ⟨b, off, e, hb, hc k _⟩
/-- Two cells of a new block. -/
theorem Has.two (w : World) (u v : Value) (t : TypeId) : Has (w.alloc (.cells #[u, v] t)) (w.heap.size + 1) (some ⟨w.heap.size, 0, none⟩) 2 [u, v] :=
  ⟨rfl, fun _ => ⟨w.heap.size, 0, rfl, by omega, fun j hj => by
    rw [World.cell?_alloc_at _ _ _ _ rfl, Nat.zero_add]
    match j, hj with
    | 0, _ => rfl
    | 1, _ => rfl⟩⟩
end

end Go.Proofs.Ytmfoegpdjajicaa
