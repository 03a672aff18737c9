/-
A range over a function whose iterator keeps state of its own in cells: the caller's law. No program.
Small lemmas without a program: strings as lists of bytes, endings, slices of strings in memory.
Plain mathematics of package ascii: no program.
Splitting at a byte: no program.
-/
import Derived.RangeFuncNested
import Derived.RangeFuncBound
import Derived.RangeFuncCalls
import Derived.RangeFuncLeaves
import Derived.WalkKit
import Derived.WalkSpells
import Derived.WalkLawsBesides
import Derived.Lib.Hide
import Derived.Laws.BytesArg
namespace Go.Proofs.YthoolifdmemceaaGreatDoor
section
open Go.RowKit

variable {F : Fence} {n : Nat} {P : Program}

/-- It stands where new blocks come and where one of the blocks Al turns. -/
def Abid {β : Type} (Al : Nat → Prop) (J : β → World → Prop) : Prop := ∀ s W W' row, J s W → W.grownBy W' row → (∀ r, row = some r → Al r) → J s W'
def SameAt (Kr : Nat → Prop) (W W' : World) : Prop := ∀ r, Kr r → W'.heap[r]? = W.heap[r]?

/-- What an iterator does from the world w0 on: it turns the blocks Al and reads the blocks Kr. -/
def SeqT {α : Type} (F : Fence) (n : Nat) (P : Program) (g : Nat) (lb : Array Value) (enc : α → Value) (Al Kr : Nat → Prop) (S Sp : List α → Prop) (N : Nat) (w0 : World) : Prop :=
  ∀ (l : Nat) (J Jx : List α → World → Prop), Abid Al J → Abid Al Jx →
    (∀ pre x W1, J pre W1 → pre.length < N → YieldAt F (n - 1) P l #[enc x] W1 fun e W' =>
      (e = .returned (.bool true) ∧ J (pre ++ [x]) W' ∧ SameAt Kr W1 W' ∧ W1.heap.size ≤ W'.heap.size) ∨ (e = .returned (.bool false) ∧ Jx (pre ++ [x]) W')) →
    J [] w0 → CallsIn F n P g (#[.func (.yield l) #[] #[]] ++ lb) w0 fun e W' => (∃ v, e = .returned v) ∧ ((∃ xs, S xs ∧ J xs W') ∨ (∃ pre, Sp pre ∧ Jx pre W'))

/-- How a round's body may be left. -/
def postT {α : Type} (B : Nat) (Kr : Nat → Prop) (I : List α → World → Prop) (Ix : Code → List α → World → Prop) (xs : List α) (W : World) : Exit → Act → World → Prop
  | .normal, _, W' => KeepsFrom B W W' ∧ SameAt Kr W W' ∧ I xs W'
  | .ret, _, W' => KeepsFrom B W W' ∧ Ix .ret xs W'
  | .exit id, _, W' => KeepsFrom B W W' ∧ Ix (.exit id) xs W'
  | .goto t, _, W' => KeepsFrom B W W' ∧ Ix (.goto t) xs W'
  | .panic _, _, _ => False
  | .outgrown, _, _ => False

/-- The caller's invariant: it stands where new blocks come, where one of the blocks Al turns, and where a block from B on turns that holds no cells. -/
def OwnT {β : Type} (Al : Nat → Prop) (B : Nat) (I : β → World → Prop) : Prop :=
  ∀ s W W' row, I s W → W.grownBy W' row → (∀ r, row = some r → Al r ∨ (B ≤ r ∧ ∃ o : Obj, W.heap[r]? = some o ∧ o.isCells = false)) → I s W'

theorem OwnT.and {β : Type} {Al : Nat → Prop} {B : Nat} {I I' : β → World → Prop} (h : OwnT Al B I) (h' : OwnT Al B I') : OwnT Al B (fun s W => I s W ∧ I' s W) := fun s W W' row hs hg hr => ⟨h s W W' row hs.1 hg hr, h' s W W' row hs.2 hg hr⟩
theorem ownT_pure {β : Type} {Al : Nat → Prop} {B : Nat} (p : β → Prop) : OwnT Al B (fun s _ => p s) := fun _ _ _ _ hs _ _ => hs
theorem ownT_below {β : Type} {Al : Nat → Prop} {B n₀ : Nat} {w₀ : World} (hn : n₀ ≤ w₀.heap.size) (hB : n₀ ≤ B) (hA : ∀ r, Al r → n₀ ≤ r) : OwnT Al B (fun (_ : β) W => Below n₀ w₀ W) :=
  fun _ _ _ _ hs hg hr => hs.grown hg (Nat.le_trans hn hs.size) (fun k e => by
    rcases hr k e with h | h
    · exact hA k h
    · exact Nat.le_trans hB h.1)
/-- A box that is none of the blocks Al. -/
theorem ownT_box {β : Type} {Al : Nat → Prop} {B : Nat} (b : Nat) (t : TypeId) (v : β → Value) (hA : ¬ Al b) : OwnT Al B (fun s W => Boxed W b t (v s)) := by
  intro s W W' row hs hg hr
  refine hs.kept hg ?_
  intro e
  rcases hr b e.symm with h | ⟨_, o, ho, hc⟩
  · exact hA h
  · rw [show W.heap[b]? = _ from hs] at ho
    cases ho
    cases hc
theorem OwnT.put {β : Type} {Al : Nat → Prop} {B : Nat} {I : β → World → Prop} (h : OwnT Al B I) {s : β} {W : World} {l : Nat} {o : Obj} (o' : Obj) (hs : I s W) (hB : B ≤ l) (hl : W.heap[l]? = some o) (ho : o.isCells = false) : I s (W.putObj l o') :=
  h s W _ (some l) hs (grownBy_putObj' W l o') (fun r e => by cases e; exact .inr ⟨hB, o, hl, ho⟩)

theorem wpIn_rangeFunc_T {α : Type} {g : Operand} {ps : Array Tmp} {assign body : Code} {Q : Exit → Act → World → Prop} {a : Act} {w : World}
    (hro : F.round = none) (h1 : 1 ≤ n) {gf : Nat} {lb : Array Value} (hg : a.eval g = .func (.func gf) #[] lb) (hFg : F.fn gf) (eg : ∀ args w, (callFunc gf args).run P w = .ok (.enter gf args) w)
    {enc : α → Value} {Al Kr : Nat → Prop} {S Sp : List α → Prop} {N : Nat} (hAl : ∀ r, Al r → r < w.heap.size) (hKr : ∀ r, Kr r → r < w.heap.size)
    (hseq : ∀ W0, w.grownBy W0 none → SeqT F (n - 1) P gf lb enc Al Kr S Sp N W0) (hps : ps.size = 1)
    (I : List α → World → Prop) (Ix : Code → List α → World → Prop) (hI : OwnT Al w.heap.size I) (hIx : ∀ c, OwnT Al w.heap.size (Ix c)) (h0 : I [] w) (a₁ : α → Act)
    (hassign : ∀ (l : Nat) (x : α) (W : World) (K : Act → World → Prop), K (a₁ x) W →
      assign.wpIn (F.inRound l) (n - 1 - 1) P (Exit.then K (fun _ _ _ => False)) { tmps := (ps.zip #[enc x]).foldl (fun t (p, v) => t.setIfInBounds p v) a.tmps, defers := [] } W)
    (hbody : ∀ (l : Nat) (pre : List α) (x : α) (W : World), w.heap.size < l → l < W.heap.size → I pre W → pre.length < N → body.wpIn (F.inRound l) (n - 1 - 1) P (postT w.heap.size Kr I Ix (pre ++ [x]) W) (a₁ x) W)
    (hdone : ∀ (D : Nat) (xs : List α) (W : World), w.heap.size ≤ D → S xs → I xs W → W.heap[D]? = some (.deferred (some [])) → Q .normal { a with defers := { target := .collected D, args := #[] } :: a.defers } W)
    (hstop : ∀ (D : Nat) (c : Code) (pre : List α) (W : World), w.heap.size ≤ D → Sp pre → Ix c pre W → W.heap[D]? = some (.deferred (some [])) → c.wpIn F n P Q { a with defers := { target := .collected D, args := #[] } :: a.defers } W) :
    (Code.rangeFunc g ps assign body).wpIn F n P Q a w := by
  refine wpIn_rangeFunc ?_
  intro fn hfn
  rw [hro]
  obtain ⟨D, hD⟩ : ∃ D, D = w.heap.size := ⟨_, rfl⟩
  obtain ⟨lp, hlp⟩ : ∃ lp : LoopState → Option Code → Loop, lp = fun st pe => { state := st, pending := pe, fn, tmps := a.tmps, params := ps, assign, body, defers := w.heap.size } := ⟨_, rfl⟩
  obtain ⟨W1, hW1⟩ : ∃ W1, W1 = (w.alloc (.deferred (some []))).alloc (.loop (lp .ready none)) := ⟨_, rfl⟩
  have hL1 : W1.heap[D + 1]? = some (.loop (lp .ready none)) := by
    have := World.alloc_heap_new (w.alloc (.deferred (some []))) (.loop (lp .ready none))
    rw [World.size_alloc] at this
    rw [hW1, hD]
    exact this
  have hK1 : W1.heap[D]? = some (.deferred (some [])) := by
    rw [hW1, hD]
    exact (Below.heap_alloc _ _ _ (by simp)).trans (World.alloc_heap_new w _)
  have hg1 : w.grownBy W1 none := by
    have g1 := World.grownBy_alloc w (.deferred (some [])) none
    have g2 := World.grownBy_alloc (w.alloc (.deferred (some []))) (.loop (lp .ready none)) none
    rw [hW1]
    exact ⟨g2.os.trans g1.os, g2.tape.trans g1.tape, g2.output.trans g1.output, Nat.le_trans g1.size g2.size, fun k hk hr => (g2.block k (Nat.lt_of_lt_of_le hk g1.size) hr).trans (g1.block k hk hr)⟩
  have hI1 : I [] W1 := hI _ _ _ none h0 hg1 (fun r e => by cases e)
  have keep : ∀ {A B : World} {row : Option Nat} {k : Nat} {o : Obj}, A.grownBy B row → (∀ r, row = some r → Al r) → w.heap.size ≤ k → A.heap[k]? = some o → B.heap[k]? = some o := by
    intro A B row k o hgr hrow hk ho
    refine (hgr.block k (Array.getElem?_eq_some_iff.1 ho).1 ?_).trans ho
    intro e
    have := hAl k (hrow k e.symm)
    omega
  refine ⟨D + 1, [{ target := .collected D, args := #[] }], W1, { target := .fn (.func gf) lb, args := #[.func (.yield (D + 1)) #[] #[]] }, W1, gf, #[.func (.yield (D + 1)) #[] #[]] ++ lb, W1, ?_, ?_, ?_, ?_, fun _ => h1, ?_⟩
  · rw [hW1, hlp, hD]
    exact run_enterLoop_outer _ _ _ _ _
  · simp only [resolve, hg]
    simp [go_sem]
  · intro f' hf'
    simp [Target.leads] at hf'
    subst hf'
    exact hFg
  · simp [invoke, go_sem, eg]
  · refine (hseq W1 hg1 (D + 1)
      (fun pre W => I pre W ∧ W.heap[D + 1]? = some (.loop (lp .ready none)) ∧ W.heap[D]? = some (.deferred (some [])))
      (fun pre W => ∃ c, Ix c pre W ∧ W.heap[D + 1]? = some (.loop (lp .done (some c))) ∧ W.heap[D]? = some (.deferred (some [])))
      (fun s A B row hs hgr hr => ⟨hI s A B row hs.1 hgr (fun r e => .inl (hr r e)), keep hgr hr (by omega) hs.2.1, keep hgr hr (by omega) hs.2.2⟩)
      (fun s A B row hs hgr hr => by
        obtain ⟨c, hc, hl, hk⟩ := hs
        exact ⟨c, hIx c s A B row hc hgr (fun r e => .inl (hr r e)), keep hgr hr (by omega) hl, keep hgr hr (by omega) hk⟩)
      ?_ ⟨hI1, hL1, hK1⟩).mono ?_
    · rintro pre x W ⟨hi, hl, hk⟩ hlen
      have hlt : D + 1 < W.heap.size := (Array.getElem?_eq_some_iff.1 hl).1
      have hy := run_yield (P := P) (args := #[enc x]) hl (by rw [hlp]; simp [hps])
      rw [hlp] at hy
      obtain ⟨W2, hW2⟩ : ∃ W2, W2 = W.putObj (D + 1) (.loop { lp .ready none with state := .busy }) := ⟨_, rfl⟩
      have hl2 : W2.heap[D + 1]? = some (.loop { lp .ready none with state := .busy }) := by rw [hW2]; exact World.putObj_heap_same hlt
      have hk2 : W2.heap[D]? = some (.deferred (some [])) := by rw [hW2]; exact (World.putObj_heap_other (by omega)).trans hk
      have hs2 : W2.heap.size = W.heap.size := by rw [hW2]; exact World.putObj_size
      have hsame2 : SameAt Kr W W2 := fun r hr => by rw [hW2]; exact World.putObj_heap_other (by have := hKr r hr; omega)
      have hi2 : I pre W2 := by rw [hW2]; exact hI.put _ hi (by omega) hl rfl
      refine ⟨fn, _, assign, body, hy, roundIn_of_wpIn hfn (hassign _ x W _ ⟨W2, by rw [hW2]; exact run_beginRound hl (by rw [hlp]), ?_⟩)⟩
      refine wpIn_mono (hbody _ pre x W2 (by omega) (by omega) hi2 hlen) ?_
      have fin : ∀ (jump : Option Code) (W3 : World), KeepsFrom w.heap.size W2 W3 →
          ∃ W4, W4 = W3.putObj (D + 1) (.loop (lp (if jump.isNone then .ready else .done) jump)) ∧ (Instr.endRound (D + 1) jump).run P W3 = .ok (.bool jump.isNone) W4 ∧
          (∀ (J : List α → World → Prop) (s : List α), OwnT Al w.heap.size J → J s W3 → J s W4) ∧ SameAt Kr W3 W4 ∧ W.heap.size ≤ W4.heap.size ∧
          W4.heap[D + 1]? = some (.loop (lp (if jump.isNone then .ready else .done) jump)) ∧ W4.heap[D]? = some (.deferred (some [])) := by
        intro jump W3 hk3
        have hl3 := hk3.same _ _ (by omega) hl2 rfl
        have he := run_endRound (P := P) jump hl3
        have hl3' := hl3
        rw [hlp] at he hl3'
        refine ⟨_, rfl, by rw [hlp]; exact he, fun J s hJ hs => hJ.put _ hs (by omega) hl3' rfl, fun r hr => World.putObj_heap_other (by have := hKr r hr; omega), by rw [World.putObj_size]; have := hk3.size; omega,
          World.putObj_heap_same (Array.getElem?_eq_some_iff.1 hl3).1, (World.putObj_heap_other (by omega)).trans (hk3.same _ _ (by omega) hk2 rfl)⟩
      rintro e a3 W3 hp
      cases e with
      | normal =>
        obtain ⟨hk3, hs3, hi3⟩ := hp
        obtain ⟨W4, _, hr, hj, hs4, hz4, hl4, hk4⟩ := fin none W3 hk3
        exact ⟨_, _, hr, .inl ⟨rfl, ⟨hj I _ hI hi3, hl4, hk4⟩, fun r hkr => (hs4 r hkr).trans ((hs3 r hkr).trans (hsame2 r hkr)), hz4⟩⟩
      | ret =>
        obtain ⟨hk3, hi3⟩ := hp
        obtain ⟨W4, _, hr, hj, _, _, hl4, hk4⟩ := fin (some .ret) W3 hk3
        exact ⟨_, _, hr, .inr ⟨rfl, .ret, hj (Ix .ret) _ (hIx _) hi3, hl4, hk4⟩⟩
      | exit id =>
        obtain ⟨hk3, hi3⟩ := hp
        obtain ⟨W4, _, hr, hj, _, _, hl4, hk4⟩ := fin (some (.exit id)) W3 hk3
        exact ⟨_, _, hr, .inr ⟨rfl, .exit id, hj (Ix (.exit id)) _ (hIx _) hi3, hl4, hk4⟩⟩
      | goto t =>
        obtain ⟨hk3, hi3⟩ := hp
        obtain ⟨W4, _, hr, hj, _, _, hl4, hk4⟩ := fin (some (.goto t)) W3 hk3
        exact ⟨_, _, hr, .inr ⟨rfl, .goto t, hj (Ix (.goto t)) _ (hIx _) hi3, hl4, hk4⟩⟩
      | panic ch => exact hp.elim
      | outgrown => exact hp.elim
    · rintro e W2 ⟨⟨v, rfl⟩, (⟨xs, hS, hi, hl, hk⟩ | ⟨pre, hSp, c, hi, hl, hk⟩)⟩
      · have he := run_endLoop (P := P) hl (by rw [hlp]; simp)
        rw [hlp] at he
        refine ⟨none, _, he, ?_⟩
        exact hdone D xs _ (by omega) hS (hI.put _ hi (by omega) hl rfl) ((World.putObj_heap_other (by omega)).trans hk)
      · have he := run_endLoop (P := P) hl (by rw [hlp]; simp)
        rw [hlp] at he
        refine ⟨some c, _, he, ?_⟩
        exact hstop D c pre _ (by omega) hSp ((hIx c).put _ hi (by omega) hl rfl) ((World.putObj_heap_other (by omega)).trans hk)
end

section
open Go.RowKit

theorem ret_bool {a b : Bool} (h : a = b) : Ending.returned (.bool a) = .returned (.bool b) := by rw [h]
theorem ret_int {k : IntKind} {a b : Int} (h : a = b) : Ending.returned (.int k a) = .returned (.int k b) := by rw [h]
theorem ret_str {a b : ByteArray} (h : a = b) : Ending.returned (.string a) = .returned (.string b) := by rw [h]

/-- A string's bytes as a list, and back. -/
def ls (s : ByteArray) : List UInt8 := s.data.toList
def bs (l : List UInt8) : ByteArray := ⟨l.toArray⟩
theorem ls_bs (l : List UInt8) : ls (bs l) = l := rfl
theorem bs_ls (s : ByteArray) : bs (ls s) = s := by cases s; rfl
theorem ls_inj {a b : ByteArray} (h : ls a = ls b) : a = b := by rw [← bs_ls a, ← bs_ls b, h]
theorem toList_ls (s : ByteArray) : s.toList = ls s := ByteArray.toList_eq s
theorem ls_length (s : ByteArray) : (ls s).length = s.size := by cases s; rfl
theorem bs_size (l : List UInt8) : (bs l).size = l.length := by rw [← ls_length, ls_bs]
theorem ls_append (a b : ByteArray) : ls (a ++ b) = ls a ++ ls b := by simp [ls, ByteArray.data_append]
theorem ls_get (s : ByteArray) (k : Nat) (h : k < s.size) : (ls s)[k]? = some s[k] := by
  have h' : k < (ls s).length := by rw [ls_length]; exact h
  rw [List.getElem?_eq_getElem h']; rfl
theorem ls_getE (s : ByteArray) (k : Nat) (_h : k < s.size) (h' : k < (ls s).length) : (ls s)[k] = s[k] := rfl
theorem ls_extract (s : ByteArray) (a b : Nat) : ls (s.extract a b) = ((ls s).drop a).take (b - a) := by
  simp [ls, ByteArray.data_extract]
theorem take_ls_succ (s : ByteArray) (k : Nat) (h : k < s.size) : (ls s).take (k + 1) = (ls s).take k ++ [s[k]] := by
  rw [List.take_succ_eq_append_getElem (by rw [ls_length]; exact h)]; rfl
theorem take_ls_all (s : ByteArray) : (ls s).take s.size = ls s := by rw [← ls_length, List.take_length]
theorem drop_ls_cons (s : ByteArray) (k : Nat) (h : k < s.size) : (ls s).drop k = s[k] :: (ls s).drop (k + 1) := by
  rw [List.drop_eq_getElem_cons (by rw [ls_length]; exact h)]; rfl
theorem drop_ls_all (s : ByteArray) : (ls s).drop s.size = [] := by rw [← ls_length, List.drop_length]
theorem byte_lt (c : UInt8) : (c.toNat : Int) < 256 := by have := c.toNat_lt; omega
/-- A byte as the walk's number. -/
def bv (c : UInt8) : Value := .int .u8 (c.toNat : Int)
theorem bv_eq (c : UInt8) : bv c = .int .u8 (c.toNat : Int) := rfl

/-- 'make([]byte, n)' leaves this. -/
def zeros (n : Nat) : Array Value := Array.replicate n (.int .u8 0)
theorem made_u8 (n : Nat) : madeCells #[.int .u8 0] n = zeros n := by
  apply Array.ext
  · simp [madeCells, zeros]
  · intro i h1 h2
    simp [madeCells, zeros, Nat.mod_one]

/-- A made row of bytes of which the first ones are written. -/
def fillRow (l : List UInt8) (n k : Nat) : Array Value := ((l.take k).map bv ++ List.replicate (n - k) (Value.int .u8 0)).toArray
theorem fillRow_zero (l : List UInt8) (n : Nat) : fillRow l n 0 = zeros n := by simp [fillRow, zeros]
theorem fillRow_size (l : List UInt8) (n k : Nat) (h : l.length = n) (hk : k ≤ n) : (fillRow l n k).size = n := by
  simp [fillRow]; omega
theorem fillRow_next (l : List UInt8) (n k : Nat) (h : l.length = n) (hk : k < n) : (fillRow l n k)[k]? = some (.int .u8 0) := by
  simp only [fillRow, List.getElem?_toArray]
  rw [List.getElem?_append_right (by simp; omega)]
  simp only [List.length_map, List.length_take]
  rw [List.getElem?_replicate, if_pos (by omega)]
theorem fillRow_set (l : List UInt8) (n k : Nat) (h : l.length = n) (hk : k < n) (c : UInt8) (hc : l[k]? = some c) :
    (fillRow l n k).setIfInBounds k (.int .u8 (c.toNat : Int)) = fillRow l n (k + 1) := by
  have hlk : k < l.length := by omega
  have hc' : l[k] = c := by rw [List.getElem?_eq_getElem hlk] at hc; exact Option.some.inj hc
  simp only [fillRow, List.setIfInBounds_toArray]
  congr 1
  rw [List.set_append_right _ _ (by simp; omega)]
  simp only [List.length_map, List.length_take]
  rw [List.take_succ_eq_append_getElem hlk, hc']
  rw [show n - k = (n - (k + 1)) + 1 by omega, show k - min k l.length = 0 by omega]
  simp [List.replicate_succ, bv]
theorem fillRow_all (l : List UInt8) (n j : Nat) (h : l.length = n) (hj : j < n) : (fillRow l n n)[j]? = some (.int .u8 ((l.map fun c => (c.toNat : Int)).getD j 0)) := by
  have hlj : j < l.length := by omega
  simp only [fillRow, List.getElem?_toArray]
  rw [List.getElem?_append_left (by simp; omega)]
  simp [List.take_of_length_le (Nat.le_of_eq h), bv, List.getD, List.getElem?_eq_getElem hlj]
theorem strOfNums_bytes (l : List UInt8) : strOfNums (l.map fun c => (c.toNat : Int)) = bs l := by
  have e : ((fun n : Int => UInt8.ofNat n.toNat) ∘ fun c : UInt8 => (c.toNat : Int)) = id := by funext c; simp
  simp [strOfNums, bs, e]

/-- What lies below: the row that a value owns lies from 'base' on. -/
theorem owns_below {w0 w w' : World} {base e size n : Nat} {v : Value} {xs : List Value} (hown : w.ownsRow base e size v n xs) (hb : Below base w0 w) (hbase : base ≤ w.heap.size) (hg : w.grownBy w' v.ownBlock) : Below base w0 w' :=
  hb.grown hg hbase fun k hk => (hown.lt k hk).1

theorem grownBy_trans {a b c : World} {row : Option Nat} (h : a.grownBy b row) (k : b.grownBy c row) : a.grownBy c row :=
  ⟨k.os.trans h.os, k.tape.trans h.tape, k.output.trans h.output, Nat.le_trans h.size k.size, fun i hi hne => (k.block i (Nat.lt_of_lt_of_le hi h.size) hne).trans (h.block i hi hne)⟩
/-- Two rows of different element types lie in different blocks. -/
theorem owns_ne {w : World} {base base' e e' size size' n n' : Nat} {v v' : Value} {xs xs' : List Value} (h : w.ownsRow base e size v n xs) (h' : w.ownsRow base' e' size' v' n' xs') (hne : e ≠ e') :
    v.ownBlock = none ∨ v.ownBlock ≠ v'.ownBlock := by
  rcases h.2 with ⟨rfl, _⟩ | ⟨g, cap, cur, rfl, _, hg, _⟩
  · exact .inl rfl
  · right
    rcases h'.2 with ⟨rfl, _⟩ | ⟨g', cap', cur', rfl, _, hg', _⟩
    · simp [Value.ownBlock]
    · intro he
      simp [Value.ownBlock] at he
      subst he
      rw [hg] at hg'
      simp at hg'
      exact hne hg'.2

/-- append(out, u) of one value of one cell: behind 'buildSlice'. -/
theorem wpList_app_one {P : Program} {w0 : World} (wr : World) {ops : Array Oper} {rest : List Oper} {o : Oper} {a : Act} {Q : Exit → Act → World → Prop} (hgd : o.guard = none) (s x : Operand) (t : TypeId)
    (ho : o.op = .call { callee := .builtin .append, args := #[s, x], argTypes := #[t, t] })
    (base : Nat) (e : TypeId) (i : TypeInfo) (z : Value) (bytes : Nat) (ht : P.underlying t = some (.slice e)) (hi : P.info? e = some i) (hz : i.zero = some z)
    (hsize : i.size = 1) (hby : i.bytes = bytes) (hzs : z.cells.size = 1) (u : Value) (hu : u.oneCell' = true)
    (v : Value) (n : Nat) (xs : List Value) (hs : a.eval s = v) (hown : wr.ownsRow base e 1 v n xs) (hx : a.eval x = .slice (some ⟨wr.heap.size, 0, none⟩) 1 1)
    (h63 : n + 1 ≤ maxLen) (hbytes : (n + 1) * bytes ≤ 140737488355328) (hb : Below base w0 wr) (hbase : base ≤ w0.heap.size)
    (h : ∀ v' w', w'.ownsRow base e 1 v' (n + 1) (xs ++ [u]) → Below base w0 w' → wr.grownBy w' v.ownBlock → wpList P ops Q rest (a.put o.dst v') w') : wpList P ops Q (o :: rest) a (wr.alloc (.cells #[u] e)) := by
  have hsz := hb.size
  have hbw : base ≤ wr.heap.size := by omega
  refine wpList_append_own _ hgd s x t ho base e i z 1 bytes ht hi hz hsize hby hzs (by decide) v n xs hs (hown.alloc _) ⟨wr.heap.size, 0, none⟩ 1 1 [u] hx rfl ?_ ?_ h63 hbytes (by simp; omega) ?_
  · intro j q hj
    match j, hj with
    | 0, hj =>
      simp at hj
      subst hj
      simp [Addr.add, World.cell?_alloc_at _ _ _ _ rfl]
  · intro q hq
    simp at hq
    subst hq
    exact hu
  · intro v' w' hown' hgrow _
    exact h v' w' hown' (owns_below (hown.alloc _) (hb.alloc hbw _) (by simp; omega) hgrow) (grownBy_trans (World.grownBy_alloc wr _ _) hgrow)

/-- The cells of a row that a value owns, one by one. -/
theorem owns_cell {w : World} {base e n : Nat} {v : Value} {xs : List Value} (h : w.ownsRow base e 1 v n xs) (hn : 0 < n) :
    ∃ g cap, v = .slice (some ⟨g, 0, none⟩) n cap ∧ base ≤ g ∧ g < w.heap.size ∧ ∀ j (hj : j < xs.length), w.cell? ⟨g, j, none⟩ = some xs[j] := by
  rcases h.2 with ⟨rfl, h0⟩ | ⟨g, cap, cur, rfl, hb, hg, hnc, _, _, htake⟩
  · omega
  · refine ⟨g, cap, rfl, hb, (Array.getElem?_eq_some_iff.1 hg).1, fun j hj => ?_⟩
    have := h.cells (g := g) rfl j xs[j] (List.getElem?_eq_getElem hj)
    have hadd : (⟨g, 0, none⟩ : Addr).add j = ⟨g, j, none⟩ := by unfold Addr.add; split <;> simp_all
    rwa [hadd] at this

/-- A slice that reads as a list of values of one cell; below block B. -/
def Has (w : World) (B : Nat) (A : Option Addr) (n : Nat) (xs : List Value) : Prop :=
  xs.length = n ∧ (0 < n → ∃ b off, A = some ⟨b, off, none⟩ ∧ b < B ∧ ∀ j (h : j < xs.length), w.cell? ⟨b, off + j, none⟩ = some xs[j])
section
variable {w w' : World} {B B' n : Nat} {A : Option Addr} {xs : List Value}
theorem Has.nil (w : World) (B : Nat) (A : Option Addr) : Has w B A 0 [] := ⟨rfl, fun h => absurd h (by omega)⟩
theorem Has.keep (h : Has w B A n xs) (hk : ∀ p : Addr, p.block < B → w'.cell? p = w.cell? p) : Has w' B A n xs :=
  ⟨h.1, fun hn => by
    obtain ⟨b, off, e, hb, hc⟩ := h.2 hn
    exact ⟨b, off, e, hb, fun j hj => (hk _ hb).trans (hc j hj)⟩⟩
theorem Has.more (h : Has w B A n xs) (hB : B ≤ B') : Has w B' A n xs :=
  ⟨h.1, fun hn => by
    obtain ⟨b, off, e, hb, hc⟩ := h.2 hn
    exact ⟨b, off, e, by omega, hc⟩⟩
theorem Has.below (h : Has w B A n xs) (hb : Below B w w') : Has w' B A n xs := h.keep fun _ hp => hb.cell hp
theorem Has.below' (h : Has w B A n xs) (hb : Below B' w w') (hB : B ≤ B') : Has w' B A n xs := h.keep fun _ hp => hb.cell (by omega)
theorem Has.drewN (h : Has w B A n xs) (k : Nat) : Has (w.drewN k) B A n xs := h
theorem Has.alloc (h : Has w B A n xs) (hB : B ≤ w.heap.size) (o : Obj) : Has (w.alloc o) B A n xs := h.keep fun p hp => World.cell?_alloc_lt w o p (by omega)
theorem Has.of_own {base : Nat} {e : TypeId} {v : Value} (h : w.ownsRow base e 1 v n xs) : ∃ A c, v = .slice A n c ∧ Has w w.heap.size A n xs ∧ n ≤ c := by
  have hx := h
  rcases h.2 with ⟨rfl, rfl⟩ | ⟨g, cap, cur, rfl, hb, hg, hnc, _⟩
  · have : xs = [] := List.eq_nil_of_length_eq_zero (by simpa using h.1)
    subst this
    exact ⟨none, 0, rfl, Has.nil _ _ _, Nat.le_refl _⟩
  · refine ⟨_, cap, rfl, ⟨by simpa using h.1, fun hn => ?_⟩, hnc⟩
    obtain ⟨g', cap', hv, _, hlt, hc⟩ := owns_cell hx hn
    injection hv with hv1 hv2 hv3
    injection hv1 with hv1
    injection hv1 with hv1
    subst hv1
    exact ⟨g, 0, rfl, hlt, fun j hj => by rw [Nat.zero_add]; exact hc j hj⟩
theorem Has.at_ (h : Has w B A n xs) {k : Nat} (hk : k < n) : ∃ b off, A = some ⟨b, off, none⟩ ∧ b < B ∧ w.cell? ⟨b, off + k, none⟩ = some (xs[k]'(by rw [h.1]; exact hk)) := by
  obtain ⟨b, off, e, hb, hc⟩ := h.2 (by omega)
  exact ⟨b, off, e, hb, hc k _⟩
/-- Two cells of a new block. -/
theorem Has.two (w : World) (u v : Value) (t : TypeId) : Has (w.alloc (.cells #[u, v] t)) (w.heap.size + 1) (some ⟨w.heap.size, 0, none⟩) 2 [u, v] :=
  ⟨rfl, fun _ => ⟨w.heap.size, 0, rfl, by omega, fun j hj => by
    rw [World.cell?_alloc_at _ _ _ _ rfl, Nat.zero_add]
    match j, hj with
    | 0, _ => rfl
    | 1, _ => rfl⟩⟩
end
end

section
open Go.RowKit

def blankB (b : Int) : Bool := b == 32 || b == 9
def spaceB (b : Int) : Bool := blankB b || b == 10 || b == 12 || b == 13
def upperB (b : Int) : Bool := decide (65 ≤ b) && decide (b ≤ 90)
def digitB (b : Int) : Bool := decide (48 ≤ b) && decide (b ≤ 57)
def lowI (b : Int) : Int := bif upperB b then b + 32 else b
def markB (b : Int) : Bool := b == 33 || b == 35 || b == 36 || b == 37 || b == 38 || b == 39 || b == 42 || b == 43 || b == 45 || b == 46 || b == 94 || b == 95 || b == 96 || b == 124 || b == 126
def tokenB (b : Int) : Bool := decide (97 ≤ b) && decide (b ≤ 122) || upperB b || digitB b || markB b

def blankU (c : UInt8) : Bool := blankB (c.toNat : Int)
def spaceU (c : UInt8) : Bool := spaceB (c.toNat : Int)
def digitU (c : UInt8) : Bool := digitB (c.toNat : Int)
def lowU (c : UInt8) : UInt8 := UInt8.ofNat (lowI (c.toNat : Int)).toNat

theorem lowI_range (b : Int) (h0 : 0 ≤ b) (h1 : b ≤ 255) : 0 ≤ lowI b ∧ lowI b ≤ 255 := by
  unfold lowI upperB
  by_cases h : 65 ≤ b <;> by_cases h2 : b ≤ 90 <;> simp [h, h2] <;> omega
theorem lowU_toNat (c : UInt8) : ((lowU c).toNat : Int) = lowI (c.toNat : Int) := by
  have := byte_lt c
  have h := lowI_range (c.toNat : Int) (by omega) (by omega)
  unfold lowU
  rw [UInt8.toNat_ofNat']
  omega
theorem lowI_lowI (b : Int) : lowI (lowI b) = lowI b := by
  unfold lowI upperB
  by_cases h : 65 ≤ b <;> by_cases h2 : b ≤ 90 <;> simp [h, h2]
  have h3 : ¬ (b + 32 ≤ 90) := by omega
  simp [h3]
theorem lowU_lowU (c : UInt8) : lowU (lowU c) = lowU c := by
  apply UInt8.toNat_inj.1
  have h := lowU_toNat (lowU c)
  rw [lowU_toNat c, lowI_lowI] at h
  have := lowU_toNat c
  omega

def lowL (l : List UInt8) : List UInt8 := l.map lowU
def lowS (s : ByteArray) : ByteArray := bs (lowL (ls s))
theorem lowL_length (l : List UInt8) : (lowL l).length = l.length := by simp [lowL]
theorem lowS_size (s : ByteArray) : (lowS s).size = s.size := by rw [lowS, bs_size, lowL_length, ls_length]
theorem lowL_lowL (l : List UInt8) : lowL (lowL l) = lowL l := by
  simp only [lowL, List.map_map]
  congr 1
  funext c
  exact lowU_lowU c
theorem lowS_lowS (s : ByteArray) : lowS (lowS s) = lowS s := by unfold lowS; rw [ls_bs, lowL_lowL]
theorem lowL_append (a b : List UInt8) : lowL (a ++ b) = lowL a ++ lowL b := by simp [lowL]
theorem lowS_append (a b : ByteArray) : lowS (a ++ b) = lowS a ++ lowS b := by
  apply ls_inj
  simp only [lowS, ls_bs, ls_append, lowL_append]

def foldB (a b : ByteArray) : Bool := lowL (ls a) == lowL (ls b)
theorem foldB_iff (a b : ByteArray) : foldB a b = true ↔ lowS a = lowS b := by
  unfold foldB lowS
  rw [beq_iff_eq]
  exact ⟨fun h => by rw [h], fun h => by rw [← ls_bs (lowL (ls a)), h, ls_bs]⟩

/-- The string without the blanks at both ends. -/
def trimL (l : List UInt8) : List UInt8 := ((l.dropWhile blankU).reverse.dropWhile blankU).reverse
def trimS (s : ByteArray) : ByteArray := bs (trimL (ls s))

def digitsB (s : ByteArray) : Bool := (ls s).all digitU && !(ls s).isEmpty

/-- The words: the maximal runs of bytes that are no spaces. 'cur' is the word that is being read. -/
def wordsFrom : List UInt8 → List UInt8 → List (List UInt8)
  | [], cur => if cur.isEmpty then [] else [cur]
  | c :: l, cur => if spaceU c then (if cur.isEmpty then wordsFrom l [] else cur :: wordsFrom l []) else wordsFrom l (cur ++ [c])
def wordsL (l : List UInt8) : List (List UInt8) := wordsFrom l []

theorem lowL_take_succ (s : ByteArray) (k : Nat) (h : k < s.size) : (lowL (ls s)).take (k + 1) = (lowL (ls s)).take k ++ [lowU s[k]] := by
  have hl : k < (lowL (ls s)).length := by rw [lowL_length, ls_length]; exact h
  rw [List.take_succ_eq_append_getElem hl]
  simp only [lowL, List.getElem_map, ls_getE s k h]
  rfl
theorem foldB_all (a b : ByteArray) (h : a.size = b.size) (ht : (lowL (ls a)).take a.size = (lowL (ls b)).take a.size) : foldB a b = true := by
  unfold foldB
  rw [beq_iff_eq]
  have h1 : (lowL (ls a)).take a.size = lowL (ls a) := List.take_of_length_le (by rw [lowL_length, ls_length]; exact Nat.le_refl _)
  have h2 : (lowL (ls b)).take a.size = lowL (ls b) := List.take_of_length_le (by rw [lowL_length, ls_length, h]; exact Nat.le_refl _)
  rw [← h1, ht, h2]

theorem digits_no (s : ByteArray) (k : Nat) (h : k < s.size) (hd : digitU s[k] = false) : digitsB s = false := by
  unfold digitsB
  have : (ls s).all digitU = false := by
    rw [List.all_eq_false]
    exact ⟨s[k], List.mem_of_getElem? (ls_get s k h), by rw [hd]; decide⟩
  rw [this]; rfl
theorem digits_yes (s : ByteArray) (h : ((ls s).take s.size).all digitU = true) : digitsB s = !(ls s).isEmpty := by
  rw [take_ls_all] at h
  unfold digitsB
  rw [h]; rfl
theorem take_all_succ (p : UInt8 → Bool) (s : ByteArray) (k : Nat) (h : k < s.size) (ht : ((ls s).take k).all p = true) (hp : p s[k] = true) : ((ls s).take (k + 1)).all p = true := by
  rw [take_ls_succ s k h, List.all_append, ht]
  simp [hp]

theorem drop_all_succ (p : UInt8 → Bool) (s : ByteArray) (k : Nat) (h : k < s.size) (ht : ((ls s).drop (k + 1)).all p = true) (hp : p s[k] = true) : ((ls s).drop k).all p = true := by
  rw [drop_ls_cons s k h, List.all_cons, hp, ht]
  rfl

theorem dropWhile_all {α : Type} (p : α → Bool) (a b : List α) (ha : a.all p = true) (hb : b = [] ∨ ∃ x r, b = x :: r ∧ p x = false) : (a ++ b).dropWhile p = b := by
  induction a with
  | nil =>
    rcases hb with rfl | ⟨x, r, rfl, hx⟩
    · rfl
    · simp [hx]
  | cons c a ih =>
    simp only [List.all_cons, Bool.and_eq_true] at ha
    simp [ha.1, ih ha.2]
/-- What is cut off at both ends is blank, and what is left begins and ends with no blank: then it is the trimmed list. -/
theorem trim_of (l a m c : List UInt8) (he : l = a ++ m ++ c) (ha : a.all blankU = true) (hc : c.all blankU = true)
    (h1 : m = [] ∨ ∃ x r, m = x :: r ∧ blankU x = false) (h2 : m = [] ∨ ∃ x r, m = r ++ [x] ∧ blankU x = false) : trimL l = m := by
  subst he
  unfold trimL
  by_cases hm : m = []
  · subst hm
    have : (a ++ [] ++ c) = (a ++ c) ++ [] := by simp
    rw [this, dropWhile_all blankU (a ++ c) [] (by simp [ha, hc]) (.inl rfl)]
    rfl
  · have h1' : ∃ x r, m = x :: r ∧ blankU x = false := by rcases h1 with h | h; exact absurd h hm; exact h
    have h2' : ∃ x r, m = r ++ [x] ∧ blankU x = false := by rcases h2 with h | h; exact absurd h hm; exact h
    obtain ⟨x, r, rfl, hx⟩ := h1'
    obtain ⟨y, q, hy, hyb⟩ := h2'
    rw [List.append_assoc, dropWhile_all blankU a (x :: r ++ c) ha (.inr ⟨x, r ++ c, rfl, hx⟩), List.reverse_append]
    rw [dropWhile_all blankU c.reverse _ (by simp at hc ⊢; exact hc) (.inr ⟨y, q.reverse, by rw [hy]; simp, hyb⟩), List.reverse_reverse]

theorem trimS_of (s : ByteArray) (k m : Nat) (hkm : k ≤ m) (hm : m ≤ s.size) (hk : ((ls s).take k).all blankU = true) (hd : ((ls s).drop m).all blankU = true)
    (h1 : k = m ∨ ∃ h : k < s.size, blankU s[k] = false) (h2 : k = m ∨ ∃ h : m - 1 < s.size, blankU s[m - 1] = false) : trimS s = bs (((ls s).drop k).take (m - k)) := by
  unfold trimS
  congr 1
  have hlen := ls_length s
  refine trim_of (ls s) ((ls s).take k) _ ((ls s).drop m) ?_ hk hd ?_ ?_
  · have e : (ls s).drop m = ((ls s).drop k).drop (m - k) := by rw [List.drop_drop]; congr 1; omega
    rw [e, List.append_assoc, List.take_append_drop, List.take_append_drop]
  · rcases h1 with rfl | ⟨h, hb⟩
    · left; simp
    · rcases Nat.eq_zero_or_pos (m - k) with h0 | h0
      · left; rw [h0]; rfl
      · right
        rw [drop_ls_cons s k h]
        refine ⟨s[k], ((ls s).drop (k + 1)).take (m - k - 1), ?_, hb⟩
        rw [show m - k = (m - k - 1) + 1 by omega]
        rfl
  · rcases h2 with rfl | ⟨h, hb⟩
    · left; simp
    · rcases Nat.eq_zero_or_pos (m - k) with h0 | h0
      · left; rw [h0]; rfl
      · right
        refine ⟨s[m - 1], ((ls s).drop k).take (m - k - 1), ?_, hb⟩
        rw [show m - k = (m - k - 1) + 1 by omega, List.take_succ_eq_append_getElem (by rw [List.length_drop, hlen]; omega)]
        congr 1
        rw [List.getElem_drop]
        simp only [List.cons.injEq, and_true]
        have : k + (m - k - 1 + 1 - 1) = m - 1 := by omega
        simp only [show k + (m - k - 1) = m - 1 by omega]
        exact ls_getE s (m - 1) h _

/-! Words. -/
def wordsS (s : ByteArray) : List ByteArray := (wordsL (ls s)).map bs
def sub (s : ByteArray) (a b : Nat) : List UInt8 := ((ls s).drop a).take (b - a)
theorem sub_self (s : ByteArray) (a : Nat) : sub s a a = [] := by simp [sub]
theorem sub_succ (s : ByteArray) (a b : Nat) (hab : a ≤ b) (h : b < s.size) : sub s a (b + 1) = sub s a b ++ [s[b]] := by
  unfold sub
  rw [show b + 1 - a = (b - a) + 1 by omega, List.take_succ_eq_append_getElem (by rw [List.length_drop, ls_length]; omega)]
  congr 1
  simp only [List.cons.injEq, and_true, List.getElem_drop]
  simp only [show a + (b - a) = b by omega]
  exact ls_getE s b h _
theorem sub_length (s : ByteArray) (a b : Nat) (hb : b ≤ s.size) : (sub s a b).length = b - a := by
  unfold sub; rw [List.length_take, List.length_drop, ls_length]; omega
theorem sub_extract (s : ByteArray) (a b : Nat) : s.extract a b = bs (sub s a b) := by
  apply ls_inj; rw [ls_extract, ls_bs]; rfl
theorem isEmpty_false {l : List UInt8} (h : 0 < l.length) : l.isEmpty = false := by cases l <;> simp at h ⊢
/-- The relation of a scan for words: 'acc' has been found, 'cur' is being read, i bytes are read. -/
def WordsAt (s : ByteArray) (acc : List (List UInt8)) (cur : List UInt8) (i : Nat) : Prop := acc ++ wordsFrom ((ls s).drop i) cur = wordsL (ls s)
theorem wordsAt_start (s : ByteArray) : WordsAt s [] [] 0 := rfl
theorem wordsAt_byte {s : ByteArray} {acc cur} {i : Nat} (h : WordsAt s acc cur i) (hi : i < s.size) (hc : spaceU s[i] = false) : WordsAt s acc (cur ++ [s[i]]) (i + 1) := by
  unfold WordsAt at h ⊢
  rw [drop_ls_cons s i hi, wordsFrom, hc] at h
  simpa using h
theorem wordsAt_skip {s : ByteArray} {acc} {i : Nat} (h : WordsAt s acc [] i) (hi : i < s.size) (hc : spaceU s[i] = true) : WordsAt s acc [] (i + 1) := by
  unfold WordsAt at h ⊢
  rw [drop_ls_cons s i hi, wordsFrom, hc] at h
  simpa using h
theorem wordsAt_word {s : ByteArray} {acc cur} {i : Nat} (h : WordsAt s acc cur i) (hi : i < s.size) (hc : spaceU s[i] = true) (hl : 0 < cur.length) : WordsAt s (acc ++ [cur]) [] (i + 1) := by
  unfold WordsAt at h ⊢
  rw [drop_ls_cons s i hi, wordsFrom, hc, isEmpty_false hl] at h
  simpa using h
/-- The word ends before a space, which is still to be read. -/
theorem wordsAt_stop {s : ByteArray} {acc cur} {i : Nat} (h : WordsAt s acc cur i) (hi : i < s.size) (hc : spaceU s[i] = true) (hl : 0 < cur.length) : WordsAt s (acc ++ [cur]) [] i := by
  have h2 := wordsAt_word h hi hc hl
  unfold WordsAt at h2 ⊢
  rw [drop_ls_cons s i hi, wordsFrom, hc]
  simpa using h2
theorem wordsAt_last {s : ByteArray} {acc cur} {i : Nat} (h : WordsAt s acc cur i) (hi : s.size ≤ i) (hl : 0 < cur.length) : acc ++ [cur] = wordsL (ls s) := by
  unfold WordsAt at h
  rw [List.drop_eq_nil_of_le (by rw [ls_length]; exact hi), wordsFrom, isEmpty_false hl] at h
  simpa using h
theorem wordsAt_end {s : ByteArray} {acc} {i : Nat} (h : WordsAt s acc [] i) (hi : s.size ≤ i) : acc = wordsL (ls s) := by
  unfold WordsAt at h
  rw [List.drop_eq_nil_of_le (by rw [ls_length]; exact hi), wordsFrom] at h
  simpa using h
theorem wordsAt_of {s : ByteArray} {acc} {i : Nat} (h : acc = wordsL (ls s)) (hi : s.size ≤ i) : WordsAt s acc [] i := by
  unfold WordsAt
  rw [List.drop_eq_nil_of_le (by rw [ls_length]; exact hi), wordsFrom, h]
  simp
end

section
open Go.RowKit

/-- Splitting at a byte. -/
def splitG (c : UInt8) : List UInt8 → List UInt8 → List (List UInt8)
  | [], cur => [cur]
  | b :: r, cur => if b = c then cur :: splitG c r [] else splitG c r (cur ++ [b])
def splitL (c : UInt8) (l : List UInt8) : List (List UInt8) := splitG c l []
theorem splitG_ne (c : UInt8) : ∀ l cur, splitG c l cur ≠ []
  | [], cur => by simp [splitG]
  | b :: r, cur => by unfold splitG; split <;> simp [splitG_ne c r]
theorem splitL_pos (c : UInt8) (l : List UInt8) : 0 < (splitL c l).length := List.length_pos_iff.2 (splitG_ne c l [])
theorem splitG_length (c : UInt8) : ∀ l cur, (splitG c l cur).length ≤ l.length + 1
  | [], cur => by simp [splitG]
  | b :: r, cur => by
    unfold splitG
    split
    · have := splitG_length c r []; simp; omega
    · have := splitG_length c r (cur ++ [b]); simp; omega
theorem splitL_length (c : UInt8) (l : List UInt8) : (splitL c l).length ≤ l.length + 1 := splitG_length c l []
/-- No byte is the separator. -/
def noB (c : UInt8) (l : List UInt8) : Prop := ∀ b ∈ l, b ≠ c
theorem splitG_free (c : UInt8) : ∀ a cur r, noB c a → splitG c (a ++ c :: r) cur = (cur ++ a) :: splitG c r []
  | [], cur, r, _ => by simp [splitG]
  | b :: a, cur, r, h => by
    have hb : b ≠ c := h b (by simp)
    rw [List.cons_append, splitG, if_neg hb, splitG_free c a (cur ++ [b]) r (fun x hx => h x (by simp [hx]))]
    simp
theorem splitG_last (c : UInt8) : ∀ a cur, noB c a → splitG c a cur = [cur ++ a]
  | [], cur, _ => by simp [splitG]
  | b :: a, cur, h => by
    have hb : b ≠ c := h b (by simp)
    rw [splitG, if_neg hb, splitG_last c a (cur ++ [b]) (fun x hx => h x (by simp [hx]))]
    simp
theorem splitL_cons (c : UInt8) (a r : List UInt8) (h : noB c a) : splitL c (a ++ c :: r) = a :: splitL c r := by
  unfold splitL; rw [splitG_free c a [] r h]; rfl
theorem splitL_one (c : UInt8) (a : List UInt8) (h : noB c a) : splitL c a = [a] := by
  unfold splitL; rw [splitG_last c a [] h]; rfl
/-- The parts with the separator between them. -/
def joinL (c : UInt8) : List (List UInt8) → List UInt8
  | [] => []
  | [a] => a
  | a :: b :: r => a ++ c :: joinL c (b :: r)
theorem joinL_cons (c : UInt8) (a : List UInt8) (p : List (List UInt8)) (h : p ≠ []) : joinL c (a :: p) = a ++ c :: joinL c p := by
  cases p with
  | nil => exact absurd rfl h
  | cons b r => rfl
theorem join_splitG (c : UInt8) : ∀ l cur, joinL c (splitG c l cur) = cur ++ l
  | [], cur => by simp [splitG, joinL]
  | b :: r, cur => by
    unfold splitG
    split
    · rename_i h
      rw [joinL_cons c _ _ (splitG_ne c r []), join_splitG c r []]
      simp [h]
    · rw [join_splitG c r (cur ++ [b])]; simp
theorem join_splitL (c : UInt8) (l : List UInt8) : joinL c (splitL c l) = l := by unfold splitL; rw [join_splitG]; rfl
theorem split_joinL (c : UInt8) : ∀ p : List (List UInt8), p ≠ [] → (∀ a ∈ p, noB c a) → splitL c (joinL c p) = p
  | [], h, _ => absurd rfl h
  | [a], _, h => splitL_one c a (h a (by simp))
  | a :: b :: r, _, h => by
    rw [joinL, splitL_cons c a _ (h a (by simp)), split_joinL c (b :: r) (by simp) (fun x hx => h x (by simp at hx ⊢; exact .inr hx))]

/-- A dot at the end. -/
theorem splitG_dot (c : UInt8) : ∀ l cur, splitG c (l ++ [c]) cur = splitG c l cur ++ [[]]
  | [], cur => by simp [splitG]
  | b :: r, cur => by
    rw [List.cons_append, splitG, splitG]
    split
    · rw [splitG_dot c r []]; rfl
    · rw [splitG_dot c r (cur ++ [b])]
end

end Go.Proofs.YthoolifdmemceaaGreatDoor
