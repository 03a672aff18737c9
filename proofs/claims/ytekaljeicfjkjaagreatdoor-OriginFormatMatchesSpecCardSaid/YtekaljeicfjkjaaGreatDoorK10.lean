/-
What is asked of package ipv6's functions, in plain words; equality of arrays.
Equality of hosts.
A range over a function whose iterator keeps state of its own in cells: the caller's law. No program.
-/
import Derived.Test.YtekaljeicfjkjaaGreatDoorK09
import Derived.ChangeKeysEq
import Derived.Deep.Cut
import Derived.Test.YtekaljeicfjkjaaGreatDoorK08
import Derived.Laws.StructEq
import Derived.RangeFuncNested
import Derived.RangeFuncBound
import Derived.RangeFuncCalls
import Derived.RangeFuncLeaves
namespace Go.Proofs.YtekaljeicfjkjaaGreatDoor
section
open Go.RowKit
set_option maxHeartbeats 16000000
def zkz (F : FuncId) : Prop := ∀ (s : ByteArray) (w : World), s.size <= 1000000000 -> zw5 w -> Calls Tryz.prog F #[.string s] w fun e w' => e = .returned (.tuple #[.agg (av (zkn (znu (ls s)))), .bool (znu (ls s)).isSome]) /\ Below w.heap.size w w'
def zk0 (F : FuncId) : Prop := ∀ (a : List Nat), a.length = 8 -> G16 a -> ∀ w : World, zw5 w -> Calls Tryz.prog F #[.agg (av a)] w fun e w' => e = .returned (.string (bs (zn0 a))) /\ Below w.heap.size w w'
theorem zk1 (W : World) (C D : List Nat) : ∀ is : List Nat, (∀ i ∈ is, i < C.length /\ i < D.length) -> (Op.eqItems 9999 23 1 (av C) (av D) is).run Tryz.prog W = .ok (is.all fun i => C.getD i 0 == D.getD i 0) W
 | [], _ => by simp [Op.eqItems]
 | i :: r, h => by
   have hi := h i (by simp)
   have ih := zk1 W C D r (fun j hj => h j (by simp [hj]))
   have e1 := zad C i hi.1
   have e2 := zad D i hi.2
   have hp : ∀ E : List Nat, i < E.length -> (part 23 (av E) (i * 1)).run Tryz.prog W = .ok (.int .u16 ((E.getD i 0 : Nat) : Int)) W := by
    intro E hE
    have e := zad E i hE
    obtain ⟨q, hq, _⟩ : ∃ q, Tryz.prog.info? 23 = some q /\ q.size = 1 := by
     cases hq : Tryz.prog.info? 23 with
     | none => have := zka; rw [hq] at this; cases this
     | some q => have := zka; rw [hq] at this; exact ⟨q, rfl, by simpa using this⟩
    rename_i hs
    simp [part, run_underlying zj8, isAgg, sizeOf, typeInfo, e, Result.andThen]
   have heq : (Op.equalIn 9999 23 (.int .u16 ((C.getD i 0 : Nat) : Int)) (.int .u16 ((D.getD i 0 : Nat) : Int))).run Tryz.prog W = .ok (((C.getD i 0 : Nat) : Int) == ((D.getD i 0 : Nat) : Int)) W :=
    run_equalIn_int W 9998 23 .u16 .u16 _ _ zj8
   have hb : (((C.getD i 0 : Nat) : Int) == ((D.getD i 0 : Nat) : Int)) = (C.getD i 0 == D.getD i 0) := by
    apply Bool.eq_iff_iff.2
    simp only [beq_iff_eq]
    omega
   simp only [Op.eqItems, Sem.run_bind, hp C hi.1, hp D hi.2, Result.andThen_ok, heq, hb, List.all_cons]
   cases hc : (C.getD i 0 == D.getD i 0) with
   | true => simpa using ih
   | false => simp
theorem zk2 : Tryz.prog.cellsOf 23 = 1 := by kernel_rfl
theorem zk3 (C D : List Nat) (hC : C.length = 8) (hD : D.length = 8) : ∀ W, (binOp .eql 24 (.agg (av C)) (.agg (av D))).run Tryz.prog W = .ok (.bool (decide (C = D))) W := by
 intro W
 obtain ⟨q, hq⟩ : ∃ q, Tryz.prog.info? 23 = some q := by
  cases hq : Tryz.prog.info? 23 with
  | none => have := zka; rw [hq] at this; cases this
  | some q => exact ⟨q, rfl⟩
 have h1 := run_equalIn_array (w := W) 9999 (av C) (av D) zae hq
 rw [zk2, zk1 W C D (List.range 8) (fun i hi => by have := List.mem_range.1 hi; omega)] at h1
 have hall : ((List.range 8).all fun i => C.getD i 0 == D.getD i 0) = decide (C = D) := by
  apply Bool.eq_iff_iff.2
  rw [List.all_eq_true, decide_eq_true_iff]
  constructor
  ·intro h
   apply List.ext_getElem (by omega)
   intro i h1 h2
   have := h i (List.mem_range.2 (by omega))
   simpa [List.getD_eq_getElem?_getD, List.getElem?_eq_getElem h1, List.getElem?_eq_getElem h2] using this
  ·intro h i _
   rw [h]; simp
 rw [hall] at h1
 rw [run_eql_struct, h1]
 rfl
end

section
open Go.RowKit
set_option maxHeartbeats 16000000
theorem zf4 (W : World) (C D : List Nat) : ∀ is : List Nat, (∀ i ∈ is, i < C.length /\ i < D.length) -> (Op.eqItems 9998 23 1 (av C) (av D) is).run Tryz.prog W = .ok (is.all fun i => C.getD i 0 == D.getD i 0) W
 | [], _ => by simp [Op.eqItems]
 | i :: r, h => by
   have hi := h i (by simp)
   have ih := zf4 W C D r (fun j hj => h j (by simp [hj]))
   have e1 := zad C i hi.1
   have e2 := zad D i hi.2
   have hp : ∀ E : List Nat, i < E.length -> (part 23 (av E) (i * 1)).run Tryz.prog W = .ok (.int .u16 ((E.getD i 0 : Nat) : Int)) W := by
    intro E hE
    have e := zad E i hE
    obtain ⟨q, hq, _⟩ : ∃ q, Tryz.prog.info? 23 = some q /\ q.size = 1 := by
     cases hq : Tryz.prog.info? 23 with
     | none => have := zka; rw [hq] at this; cases this
     | some q => have := zka; rw [hq] at this; exact ⟨q, rfl, by simpa using this⟩
    rename_i hs
    simp [part, run_underlying zj8, isAgg, sizeOf, typeInfo, e, Result.andThen]
   have heq : (Op.equalIn 9998 23 (.int .u16 ((C.getD i 0 : Nat) : Int)) (.int .u16 ((D.getD i 0 : Nat) : Int))).run Tryz.prog W = .ok (((C.getD i 0 : Nat) : Int) == ((D.getD i 0 : Nat) : Int)) W :=
    run_equalIn_int W 9997 23 .u16 .u16 _ _ zj8
   have hb : (((C.getD i 0 : Nat) : Int) == ((D.getD i 0 : Nat) : Int)) = (C.getD i 0 == D.getD i 0) := by
    apply Bool.eq_iff_iff.2
    simp only [beq_iff_eq]
    omega
   simp only [Op.eqItems, Sem.run_bind, hp C hi.1, hp D hi.2, Result.andThen_ok, heq, hb, List.all_cons]
   cases hc : (C.getD i 0 == D.getD i 0) with
   | true => simpa using ih
   | false => simp
theorem zf5 : ∀ (g : List Nat), g.length = 8 -> ∃ a b c d e f i j, g = [a, b, c, d, e, f, i, j]
 | [a, b, c, d, e, f, i, j], _ => ⟨a, b, c, d, e, f, i, j, rfl⟩
theorem zf6 (C D : List Nat) (hC : C.length = 8) (hD : D.length = 8) (W : World) : (Op.equalIn 9999 24 (.agg (av C)) (.agg (av D))).run Tryz.prog W = .ok (decide (C = D)) W := by
 obtain ⟨q, hq⟩ : ∃ q, Tryz.prog.info? 23 = some q := by
  cases hq : Tryz.prog.info? 23 with
  | none => have := zka; rw [hq] at this; cases this
  | some q => exact ⟨q, rfl⟩
 have h1 := run_equalIn_array (P := Tryz.prog) (w := W) 9998 (av C) (av D) zae hq
 rw [zk2, zf4 W C D (List.range 8) (fun i hi => by have := List.mem_range.1 hi; omega)] at h1
 have hall : ((List.range 8).all fun i => C.getD i 0 == D.getD i 0) = decide (C = D) := by
  apply Bool.eq_iff_iff.2
  rw [List.all_eq_true, decide_eq_true_iff]
  constructor
  ·intro h
   apply List.ext_getElem (by omega)
   intro i h1 h2
   have := h i (List.mem_range.2 (by omega))
   simpa [List.getD_eq_getElem?_getD, List.getElem?_eq_getElem h1, List.getElem?_eq_getElem h2] using this
  ·intro h i _
   rw [h]; simp
 rw [hall] at h1
 exact h1
set_option maxRecDepth 20000 in
theorem zf7 (k k' : Int) (n n' : ByteArray) (v v' : Int) (g g' : List Nat) (hg : g.length = 8) (hg' : g'.length = 8) (W : World) :
 (binOp .eql 26 (.agg (hc k n v g)) (.agg (hc k' n' v' g'))).run Tryz.prog W = .ok (.bool (decide (k = k' /\ n.toList = n'.toList /\ v = v' /\ g = g'))) W := by
 have h8 := zf6 g g' hg hg' W
 obtain ⟨a0, a1, a2, a3, a4, a5, a6, a7, rfl⟩ := zf5 g hg
 obtain ⟨b0, b1, b2, b3, b4, b5, b6, b7, rfl⟩ := zf5 g' hg'
 ·skip
  obtain ⟨q, hq⟩ : ∃ q, q = decide ([a0, a1, a2, a3, a4, a5, a6, a7] = [b0, b1, b2, b3, b4, b5, b6, b7]) := ⟨_, rfl⟩
  rw [<- hq] at h8
  have e1 : av [a0, a1, a2, a3, a4, a5, a6, a7] = #[.int .u16 (a0 : Int), .int .u16 (a1 : Int), .int .u16 (a2 : Int), .int .u16 (a3 : Int), .int .u16 (a4 : Int), .int .u16 (a5 : Int), .int .u16 (a6 : Int), .int .u16 (a7 : Int)] := rfl
  have e2 : av [b0, b1, b2, b3, b4, b5, b6, b7] = #[.int .u16 (b0 : Int), .int .u16 (b1 : Int), .int .u16 (b2 : Int), .int .u16 (b3 : Int), .int .u16 (b4 : Int), .int .u16 (b5 : Int), .int .u16 (b6 : Int), .int .u16 (b7 : Int)] := rfl
  rw [e1, e2] at h8
  have e3 : decide (k = k' /\ n.toList = n'.toList /\ v = v' /\ [a0, a1, a2, a3, a4, a5, a6, a7] = [b0, b1, b2, b3, b4, b5, b6, b7]) = (decide (k = k') && (decide (n.toList = n'.toList) && (decide (v = v') && q))) := by
   rw [hq, Bool.eq_iff_iff]
   simp only [decide_eq_true_eq, Bool.and_eq_true]
  rw [e3]
  have e4 : ∀ (x0 x1 x2 x3 x4 x5 x6 x7 : Nat), hc k n v [x0, x1, x2, x3, x4, x5, x6, x7] = #[.int .i64 k, .string n, .int .u32 v, .int .u16 (x0 : Int), .int .u16 (x1 : Int), .int .u16 (x2 : Int), .int .u16 (x3 : Int), .int .u16 (x4 : Int), .int .u16 (x5 : Int), .int .u16 (x6 : Int), .int .u16 (x7 : Int)] := fun _ _ _ _ _ _ _ _ => rfl
  have e5 : hc k' n' v' [b0, b1, b2, b3, b4, b5, b6, b7] = #[.int .i64 k', .string n', .int .u32 v', .int .u16 (b0 : Int), .int .u16 (b1 : Int), .int .u16 (b2 : Int), .int .u16 (b3 : Int), .int .u16 (b4 : Int), .int .u16 (b5 : Int), .int .u16 (b6 : Int), .int .u16 (b7 : Int)] := rfl
  rw [e4, e5]
  clear e1 e2 e3 e4 e5 hq
  by_cases h1 : k = k' <;> by_cases h2 : n.toList = n'.toList <;> by_cases h3 : v = v' <;> cases q <;> simp [go_sem, h1, h2, h3, h8]
end

section
open Go.RowKit
set_option maxHeartbeats 16000000
variable {F : Fence} {n : Nat} {P : Program}
def z17 {β : Type} (Al : Nat -> Prop) (J : β -> World -> Prop) : Prop := ∀ s W W' row, J s W -> W.grownBy W' row -> (∀ r, row = some r -> Al r) -> J s W'
def z18 (Kr : Nat -> Prop) (W W' : World) : Prop := ∀ r, Kr r -> W'.heap[r]? = W.heap[r]?
def z19 {α : Type} (F : Fence) (n : Nat) (P : Program) (g : Nat) (lb : Array Value) (enc : α -> Value) (Al Kr : Nat -> Prop) (S Sp : List α -> Prop) (N : Nat) (w0 : World) : Prop :=
 ∀ (l : Nat) (J Jx : List α -> World -> Prop), z17 Al J -> z17 Al Jx ->
  (∀ pre x W1, J pre W1 -> pre.length < N -> YieldAt F (n - 1) P l #[enc x] W1 fun e W' =>
    (e = .returned (.bool true) /\ J (pre ++ [x]) W' /\ z18 Kr W1 W' /\ W1.heap.size <= W'.heap.size) \/ (e = .returned (.bool false) /\ Jx (pre ++ [x]) W')) ->
  J [] w0 -> CallsIn F n P g (#[.func (.yield l) #[] #[]] ++ lb) w0 fun e W' => (∃ v, e = .returned v) /\ ((∃ xs, S xs /\ J xs W') \/ (∃ pre, Sp pre /\ Jx pre W'))
def z2a {α : Type} (B : Nat) (Kr : Nat -> Prop) (I : List α -> World -> Prop) (Ix : Code -> List α -> World -> Prop) (xs : List α) (W : World) : Exit -> Act -> World -> Prop
 | .normal, _, W' => KeepsFrom B W W' /\ z18 Kr W W' /\ I xs W'
 | .ret, _, W' => KeepsFrom B W W' /\ Ix .ret xs W'
 | .exit id, _, W' => KeepsFrom B W W' /\ Ix (.exit id) xs W'
 | .goto t, _, W' => KeepsFrom B W W' /\ Ix (.goto t) xs W'
 | .panic _, _, _ => False
 | .outgrown, _, _ => False
def z2b {β : Type} (Al : Nat -> Prop) (B : Nat) (I : β -> World -> Prop) : Prop :=
 ∀ s W W' row, I s W -> W.grownBy W' row -> (∀ r, row = some r -> Al r \/ (B <= r /\ ∃ o : Obj, W.heap[r]? = some o /\ o.isCells = false)) -> I s W'
theorem z2b.and {β : Type} {Al : Nat -> Prop} {B : Nat} {I I' : β -> World -> Prop} (h : z2b Al B I) (h' : z2b Al B I') : z2b Al B (fun s W => I s W /\ I' s W) := fun s W W' row hs hg hr => ⟨h s W W' row hs.1 hg hr, h' s W W' row hs.2 hg hr⟩
theorem z2c {β : Type} {Al : Nat -> Prop} {B : Nat} (p : β -> Prop) : z2b Al B (fun s _ => p s) := fun _ _ _ _ hs _ _ => hs
theorem z2d {β : Type} {Al : Nat -> Prop} {B n₀ : Nat} {w₀ : World} (hn : n₀ <= w₀.heap.size) (hB : n₀ <= B) (hA : ∀ r, Al r -> n₀ <= r) : z2b Al B (fun (_ : β) W => Below n₀ w₀ W) :=
 fun _ _ _ _ hs hg hr => hs.grown hg (Nat.le_trans hn hs.size) (fun k e => by
  rcases hr k e with h | h
  ·exact hA k h
  ·exact Nat.le_trans hB h.1)
theorem z2e {β : Type} {Al : Nat -> Prop} {B : Nat} (b : Nat) (t : TypeId) (v : β -> Value) (hA : ¬ Al b) : z2b Al B (fun s W => Boxed W b t (v s)) := by
 intro s W W' row hs hg hr
 refine hs.kept hg ?_
 intro e
 rcases hr b e.symm with h | ⟨_, o, ho, hc⟩
 ·exact hA h
 ·rw [show W.heap[b]? = _ from hs] at ho
  cases ho
  cases hc
theorem z2b.put {β : Type} {Al : Nat -> Prop} {B : Nat} {I : β -> World -> Prop} (h : z2b Al B I) {s : β} {W : World} {l : Nat} {o : Obj} (o' : Obj) (hs : I s W) (hB : B <= l) (hl : W.heap[l]? = some o) (ho : o.isCells = false) : I s (W.putObj l o') :=
 h s W _ (some l) hs (grownBy_putObj' W l o') (fun r e => by cases e; exact .inr ⟨hB, o, hl, ho⟩)
theorem z2f {α : Type} {g : Operand} {ps : Array Tmp} {assign body : Code} {Q : Exit -> Act -> World -> Prop} {a : Act} {w : World}
 (hro : F.round = none) (h1 : 1 <= n) {gf : Nat} {lb : Array Value} (hg : a.eval g = .func (.func gf) #[] lb) (hFg : F.fn gf) (eg : ∀ args w, (callFunc gf args).run P w = .ok (.enter gf args) w)
 {enc : α -> Value} {Al Kr : Nat -> Prop} {S Sp : List α -> Prop} {N : Nat} (hAl : ∀ r, Al r -> r < w.heap.size) (hKr : ∀ r, Kr r -> r < w.heap.size)
 (hseq : ∀ W0, w.grownBy W0 none -> z19 F (n - 1) P gf lb enc Al Kr S Sp N W0) (hps : ps.size = 1)
 (I : List α -> World -> Prop) (Ix : Code -> List α -> World -> Prop) (hI : z2b Al w.heap.size I) (hIx : ∀ c, z2b Al w.heap.size (Ix c)) (h0 : I [] w) (a₁ : α -> Act)
 (hassign : ∀ (l : Nat) (x : α) (W : World) (K : Act -> World -> Prop), K (a₁ x) W ->
   assign.wpIn (F.inRound l) (n - 1 - 1) P (Exit.then K (fun _ _ _ => False)) { tmps := (ps.zip #[enc x]).foldl (fun t (p, v) => t.setIfInBounds p v) a.tmps, defers := [] } W)
 (hbody : ∀ (l : Nat) (pre : List α) (x : α) (W : World), w.heap.size < l -> l < W.heap.size -> I pre W -> pre.length < N -> body.wpIn (F.inRound l) (n - 1 - 1) P (z2a w.heap.size Kr I Ix (pre ++ [x]) W) (a₁ x) W)
 (hdone : ∀ (D : Nat) (xs : List α) (W : World), w.heap.size <= D -> S xs -> I xs W -> W.heap[D]? = some (.deferred (some [])) -> Q .normal { a with defers := { target := .collected D, args := #[] } :: a.defers } W)
 (hstop : ∀ (D : Nat) (c : Code) (pre : List α) (W : World), w.heap.size <= D -> Sp pre -> Ix c pre W -> W.heap[D]? = some (.deferred (some [])) -> c.wpIn F n P Q { a with defers := { target := .collected D, args := #[] } :: a.defers } W) :
 (Code.rangeFunc g ps assign body).wpIn F n P Q a w := by
 refine wpIn_rangeFunc ?_
 intro fn hfn
 rw [hro]
 obtain ⟨D, hD⟩ : ∃ D, D = w.heap.size := ⟨_, rfl⟩
 obtain ⟨lp, hlp⟩ : ∃ lp : LoopState -> Option Code -> Loop, lp = fun st pe => { state := st, pending := pe, fn, tmps := a.tmps, params := ps, assign, body, defers := w.heap.size } := ⟨_, rfl⟩
 obtain ⟨W1, hW1⟩ : ∃ W1, W1 = (w.alloc (.deferred (some []))).alloc (.loop (lp .ready none)) := ⟨_, rfl⟩
 have hL1 : W1.heap[D + 1]? = some (.loop (lp .ready none)) := by
  have := World.alloc_heap_new (w.alloc (.deferred (some []))) (.loop (lp .ready none))
  rw [World.size_alloc] at this
  rw [hW1, hD]
  exact this
 have hK1 : W1.heap[D]? = some (.deferred (some [])) := by
  rw [hW1, hD]
  exact (Below.heap_alloc _ _ _ (by simp)).trans (World.alloc_heap_new w _)
 have hg1 : w.grownBy W1 none := by
  have g1 := World.grownBy_alloc w (.deferred (some [])) none
  have g2 := World.grownBy_alloc (w.alloc (.deferred (some []))) (.loop (lp .ready none)) none
  rw [hW1]
  exact ⟨g2.os.trans g1.os, g2.tape.trans g1.tape, g2.output.trans g1.output, Nat.le_trans g1.size g2.size, fun k hk hr => (g2.block k (Nat.lt_of_lt_of_le hk g1.size) hr).trans (g1.block k hk hr)⟩
 have hI1 : I [] W1 := hI _ _ _ none h0 hg1 (fun r e => by cases e)
 have keep : ∀ {A B : World} {row : Option Nat} {k : Nat} {o : Obj}, A.grownBy B row -> (∀ r, row = some r -> Al r) -> w.heap.size <= k -> A.heap[k]? = some o -> B.heap[k]? = some o := by
  intro A B row k o hgr hrow hk ho
  refine (hgr.block k (Array.getElem?_eq_some_iff.1 ho).1 ?_).trans ho
  intro e
  have := hAl k (hrow k e.symm)
  omega
 refine ⟨D + 1, [{ target := .collected D, args := #[] }], W1, { target := .fn (.func gf) lb, args := #[.func (.yield (D + 1)) #[] #[]] }, W1, gf, #[.func (.yield (D + 1)) #[] #[]] ++ lb, W1, ?_, ?_, ?_, ?_, fun _ => h1, ?_⟩
 ·rw [hW1, hlp, hD]
  exact run_enterLoop_outer _ _ _ _ _
 ·simp only [resolve, hg]
  simp [go_sem]
 ·intro f' hf'
  simp [Target.leads] at hf'
  subst hf'
  exact hFg
 ·simp [invoke, go_sem, eg]
 ·refine (hseq W1 hg1 (D + 1)
   (fun pre W => I pre W /\ W.heap[D + 1]? = some (.loop (lp .ready none)) /\ W.heap[D]? = some (.deferred (some [])))
   (fun pre W => ∃ c, Ix c pre W /\ W.heap[D + 1]? = some (.loop (lp .done (some c))) /\ W.heap[D]? = some (.deferred (some [])))
   (fun s A B row hs hgr hr => ⟨hI s A B row hs.1 hgr (fun r e => .inl (hr r e)), keep hgr hr (by omega) hs.2.1, keep hgr hr (by omega) hs.2.2⟩)
   (fun s A B row hs hgr hr => by
     obtain ⟨c, hc, hl, hk⟩ := hs
     exact ⟨c, hIx c s A B row hc hgr (fun r e => .inl (hr r e)), keep hgr hr (by omega) hl, keep hgr hr (by omega) hk⟩)
   ?_ ⟨hI1, hL1, hK1⟩).mono ?_
  ·rintro pre x W ⟨hi, hl, hk⟩ hlen
   have hlt : D + 1 < W.heap.size := (Array.getElem?_eq_some_iff.1 hl).1
   have hy := run_yield (P := P) (args := #[enc x]) hl (by rw [hlp]; simp [hps])
   rw [hlp] at hy
   obtain ⟨W2, hW2⟩ : ∃ W2, W2 = W.putObj (D + 1) (.loop { lp .ready none with state := .busy }) := ⟨_, rfl⟩
   have hl2 : W2.heap[D + 1]? = some (.loop { lp .ready none with state := .busy }) := by rw [hW2]; exact World.putObj_heap_same hlt
   have hk2 : W2.heap[D]? = some (.deferred (some [])) := by rw [hW2]; exact (World.putObj_heap_other (by omega)).trans hk
   have hs2 : W2.heap.size = W.heap.size := by rw [hW2]; exact World.putObj_size
   have hsame2 : z18 Kr W W2 := fun r hr => by rw [hW2]; exact World.putObj_heap_other (by have := hKr r hr; omega)
   have hi2 : I pre W2 := by rw [hW2]; exact hI.put _ hi (by omega) hl rfl
   refine ⟨fn, _, assign, body, hy, roundIn_of_wpIn hfn (hassign _ x W _ ⟨W2, by rw [hW2]; exact run_beginRound hl (by rw [hlp]), ?_⟩)⟩
   refine wpIn_mono (hbody _ pre x W2 (by omega) (by omega) hi2 hlen) ?_
   have fin : ∀ (jump : Option Code) (W3 : World), KeepsFrom w.heap.size W2 W3 ->
    ∃ W4, W4 = W3.putObj (D + 1) (.loop (lp (if jump.isNone then .ready else .done) jump)) /\ (Instr.endRound (D + 1) jump).run P W3 = .ok (.bool jump.isNone) W4 /\
    (∀ (J : List α -> World -> Prop) (s : List α), z2b Al w.heap.size J -> J s W3 -> J s W4) /\ z18 Kr W3 W4 /\ W.heap.size <= W4.heap.size /\
    W4.heap[D + 1]? = some (.loop (lp (if jump.isNone then .ready else .done) jump)) /\ W4.heap[D]? = some (.deferred (some [])) := by
    intro jump W3 hk3
    have hl3 := hk3.same _ _ (by omega) hl2 rfl
    have he := run_endRound (P := P) jump hl3
    have hl3' := hl3
    rw [hlp] at he hl3'
    refine ⟨_, rfl, by rw [hlp]; exact he, fun J s hJ hs => hJ.put _ hs (by omega) hl3' rfl, fun r hr => World.putObj_heap_other (by have := hKr r hr; omega), by rw [World.putObj_size]; have := hk3.size; omega,
     World.putObj_heap_same (Array.getElem?_eq_some_iff.1 hl3).1, (World.putObj_heap_other (by omega)).trans (hk3.same _ _ (by omega) hk2 rfl)⟩
   rintro e a3 W3 hp
   cases e with
   | normal =>
     obtain ⟨hk3, hs3, hi3⟩ := hp
     obtain ⟨W4, _, hr, hj, hs4, hz4, hl4, hk4⟩ := fin none W3 hk3
     exact ⟨_, _, hr, .inl ⟨rfl, ⟨hj I _ hI hi3, hl4, hk4⟩, fun r hkr => (hs4 r hkr).trans ((hs3 r hkr).trans (hsame2 r hkr)), hz4⟩⟩
   | ret =>
     obtain ⟨hk3, hi3⟩ := hp
     obtain ⟨W4, _, hr, hj, _, _, hl4, hk4⟩ := fin (some .ret) W3 hk3
     exact ⟨_, _, hr, .inr ⟨rfl, .ret, hj (Ix .ret) _ (hIx _) hi3, hl4, hk4⟩⟩
   | exit id =>
     obtain ⟨hk3, hi3⟩ := hp
     obtain ⟨W4, _, hr, hj, _, _, hl4, hk4⟩ := fin (some (.exit id)) W3 hk3
     exact ⟨_, _, hr, .inr ⟨rfl, .exit id, hj (Ix (.exit id)) _ (hIx _) hi3, hl4, hk4⟩⟩
   | goto t =>
     obtain ⟨hk3, hi3⟩ := hp
     obtain ⟨W4, _, hr, hj, _, _, hl4, hk4⟩ := fin (some (.goto t)) W3 hk3
     exact ⟨_, _, hr, .inr ⟨rfl, .goto t, hj (Ix (.goto t)) _ (hIx _) hi3, hl4, hk4⟩⟩
   | panic ch => exact hp.elim
   | outgrown => exact hp.elim
  ·rintro e W2 ⟨⟨v, rfl⟩, (⟨xs, hS, hi, hl, hk⟩ | ⟨pre, hSp, c, hi, hl, hk⟩)⟩
   ·have he := run_endLoop (P := P) hl (by rw [hlp]; simp)
    rw [hlp] at he
    refine ⟨none, _, he, ?_⟩
    exact hdone D xs _ (by omega) hS (hI.put _ hi (by omega) hl rfl) ((World.putObj_heap_other (by omega)).trans hk)
   ·have he := run_endLoop (P := P) hl (by rw [hlp]; simp)
    rw [hlp] at he
    refine ⟨some c, _, he, ?_⟩
    exact hstop D c pre _ (by omega) hSp ((hIx c).put _ hi (by omega) hl rfl) ((World.putObj_heap_other (by omega)).trans hk)
end

end Go.Proofs.YtekaljeicfjkjaaGreatDoor
