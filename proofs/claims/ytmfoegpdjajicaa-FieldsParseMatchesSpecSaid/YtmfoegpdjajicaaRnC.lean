/-
  A range over a function whose rounds write memory of the caller's, in an iterator that makes memory of its own and may itself range over functions: who owns what is said by a set of blocks. No program.
-/
import Derived.Test.YtmfoegpdjajicaaRng
import Derived.Test.YtmfoegpdjajicaaBase
namespace Go.Proofs.Ytmfoegpdjajicaa
open Go.RowKit

variable {P : Program}

/-- From W to W' only blocks of C and new ones turned; C' holds blocks of C and new ones. -/
structure Grow (C C' : Nat → Prop) (W W' : World) : Prop where
  size : W.heap.size ≤ W'.heap.size
  same : ∀ k, k < W.heap.size → ¬ C k → W'.heap[k]? = W.heap[k]?
  own : ∀ k, C' k → C k ∨ W.heap.size ≤ k
theorem Grow.refl (C : Nat → Prop) (W : World) : Grow C C W W := ⟨Nat.le_refl _, fun _ _ _ => rfl, fun _ h => .inl h⟩
theorem Grow.trans {C C' C'' : Nat → Prop} {W W' W'' : World} (h : Grow C C' W W') (k : Grow C' C'' W' W'') : Grow C C'' W W'' := by
  refine ⟨Nat.le_trans h.size k.size, fun i hi hc => ?_, fun i hi => ?_⟩
  · refine (k.same i (Nat.lt_of_lt_of_le hi h.size) fun hc' => ?_).trans (h.same i hi hc)
    rcases h.own i hc' with hx | hx
    · exact hc hx
    · omega
  · rcases k.own i hi with hx | hx
    · exact h.own i hx
    · have := h.size
      exact .inr (by omega)
theorem Grow.not {C C' : Nat → Prop} {W W' : World} (h : Grow C C' W W') {k : Nat} (hk : k < W.heap.size) (hn : ¬ C k) : ¬ C' k := fun hc => by
  rcases h.own k hc with hx | hx
  · exact hn hx
  · omega
/-- It stands where new blocks come, and where a block from B on turns that is none of C. -/
def Std {β : Type} (B : Nat) (J : β → (Nat → Prop) → World → Prop) : Prop := ∀ s C W W' row, J s C W → W.grownBy W' row → (∀ r, row = some r → B ≤ r ∧ ¬ C r) → J s C W'
def Bnd {β : Type} (J : β → (Nat → Prop) → World → Prop) : Prop := ∀ s C W, J s C W → ∀ k, C k → k < W.heap.size
theorem Std.alloc {β : Type} {B : Nat} {J : β → (Nat → Prop) → World → Prop} (h : Std B J) {s : β} {C : Nat → Prop} {W : World} (hs : J s C W) (o : Obj) : J s C (W.alloc o) := h s C W _ none hs (World.grownBy_alloc W o none) (fun r e => by cases e)
theorem Std.below {β : Type} {B : Nat} {J : β → (Nat → Prop) → World → Prop} (h : Std B J) {s : β} {C : Nat → Prop} {W W' : World} (hs : J s C W) (hb : Below W.heap.size W W') : J s C W' :=
  h s C W W' none hs ⟨hb.os, hb.tape, hb.output, hb.size, fun k hk _ => hb.block k hk⟩ (fun r e => by cases e)
theorem Std.put {β : Type} {B : Nat} {J : β → (Nat → Prop) → World → Prop} (h : Std B J) {s : β} {C : Nat → Prop} {W : World} {l : Nat} (hs : J s C W) (hB : B ≤ l) (hl : ¬ C l) (o : Obj) : J s C (W.putObj l o) :=
  h s C W _ (some l) hs (grownBy_putObj' W l o) (fun r e => by cases e; exact ⟨hB, hl⟩)
theorem Std.from {β : Type} {B B' : Nat} {J : β → (Nat → Prop) → World → Prop} (h : Std B J) (hB : B ≤ B') : Std B' J := fun s C W W' row hs hg hr => h s C W W' row hs hg fun r e => ⟨Nat.le_trans hB (hr r e).1, (hr r e).2⟩
theorem Std.and {β : Type} {B : Nat} {J K : β → (Nat → Prop) → World → Prop} (h : Std B J) (k : Std B K) : Std B (fun s C W => J s C W ∧ K s C W) := fun s C W W' row hs hg hr => ⟨h s C W W' row hs.1 hg hr, k s C W W' row hs.2 hg hr⟩
theorem std_pure {β : Type} (B : Nat) (p : β → (Nat → Prop) → Prop) : Std B (fun s C _ => p s C) := fun _ _ _ _ _ hs _ _ => hs
theorem std_grow {β : Type} {B : Nat} {C1 : Nat → Prop} {W1 : World} (hB : W1.heap.size ≤ B) : Std B (fun (_ : β) C W => Grow C1 C W1 W) := fun _ C W W' row hs hg hr => by
  refine ⟨Nat.le_trans hs.size hg.size, fun k hk hc => ?_, hs.own⟩
  refine (hg.block k (Nat.lt_of_lt_of_le hk hs.size) fun e => ?_).trans (hs.same k hk hc)
  have := (hr k e.symm).1
  omega
theorem std_below {β : Type} {B n₀ : Nat} {w₀ : World} (hn : n₀ ≤ w₀.heap.size) (hB : n₀ ≤ B) : Std B (fun (_ : β) _ W => Below n₀ w₀ W) :=
  fun _ _ _ _ _ hs hg hr => hs.grown hg (Nat.le_trans hn hs.size) (fun k e => Nat.le_trans hB (hr k e).1)
theorem Std.comp {β γ : Type} {B : Nat} {J : β → (Nat → Prop) → World → Prop} (h : Std B J) (f : γ → β) : Std B (fun s => J (f s)) := fun s C W W' row hs hg hr => h (f s) C W W' row hs hg hr
/-- A box ahead of B stands. -/
theorem std_box {β : Type} {B b : Nat} {t : TypeId} {v : Value} (hb : b < B) : Std B (fun (_ : β) _ W => Boxed W b t v) := fun _ _ _ _ _ hs hg hr => hs.kept hg (fun e => by have := (hr b e.symm).1; omega)
theorem grow_box {C C' : Nat → Prop} {W W' : World} (h : Grow C C' W W') {b : Nat} {t : TypeId} {v : Value} (hx : Boxed W b t v) (hc : ¬ C b) : Boxed W' b t v := (h.same b hx.lt hc).trans hx

/-- A call of yield that may come at any depth, from within a round or not. -/
def YieldW (P : Program) (l : Nat) (args : Array Value) (W : World) (R : Ending → World → Prop) : Prop := YieldAt Fence.wide 0 P l args W R
theorem round_wide {n m : Nat} {l : Nat} {f : FuncId} {tmps : Array Value} {assign body : Code} {w : World} {R : Ending → World → Prop} (h : RoundIn Fence.wide n P l f tmps assign body w R) : RoundIn Fence.wide m P l f tmps assign body w R :=
  ⟨h.1, fun c cs _ => h.2 c cs (room_wide _)⟩
theorem round_in {n : Nat} {l l0 : Nat} {f : FuncId} {tmps : Array Value} {assign body : Code} {w : World} {R : Ending → World → Prop} (h : RoundIn Fence.wide n P l f tmps assign body w R) : RoundIn (Fence.wide.inRound l0) n P l f tmps assign body w R := h

/-- What an iterator does from the world W0 on: it yields the strings of L, in order, keeps what is the caller's, and reads the blocks Kr, which are none of the caller's. -/
def SeqC (P : Program) (g : Nat) (lb : Array Value) (L : List (List UInt8)) (Kr : Nat → Prop) (W0 : World) : Prop :=
  ∀ (l : Nat) (J Jx : List (List UInt8) → (Nat → Prop) → World → Prop) (C0 : Nat → Prop), Std W0.heap.size J → Std W0.heap.size Jx → Bnd J → (∀ k, Kr k → k < W0.heap.size ∧ ¬ C0 k) →
    (∀ pre x C W1, x.size ≤ 1000000000 → pre ++ [ls x] <+: L → J pre C W1 → YieldW P l #[.string x] W1 fun e W' => ∃ C', Grow C C' W1 W' ∧ ((e = .returned (.bool true) ∧ J (pre ++ [ls x]) C' W') ∨ (e = .returned (.bool false) ∧ Jx (pre ++ [ls x]) C' W'))) →
    J [] C0 W0 → Calls P g (#[.func (.yield l) #[] #[]] ++ lb) W0 fun e W' => (∃ v, e = .returned v) ∧ ∃ C', J L C' W' ∨ ∃ pre, pre <+: L ∧ Jx pre C' W'

/-- How a round's body may be left. -/
def postC (I : List (List UInt8) → (Nat → Prop) → World → Prop) (Ix : Code → List (List UInt8) → (Nat → Prop) → World → Prop) (xs : List (List UInt8)) (C : Nat → Prop) (W : World) : Exit → Act → World → Prop
  | .normal, _, W' => ∃ C', Grow C C' W W' ∧ I xs C' W'
  | .ret, _, W' => ∃ C', Grow C C' W W' ∧ Ix .ret xs C' W'
  | .exit id, _, W' => ∃ C', Grow C C' W W' ∧ Ix (.exit id) xs C' W'
  | .goto t, _, W' => ∃ C', Grow C C' W W' ∧ Ix (.goto t) xs C' W'
  | .panic _, _, _ => False
  | .outgrown, _, _ => False

/-- The blocks that the caller and its loop own together. -/
def orC (C : Nat → Prop) (D E : Nat) : Nat → Prop := fun k => C k ∨ k = D ∨ k = E

section
variable {g : Operand} {ps : Array Tmp} {assign body : Code} {Q : Exit → Act → World → Prop} {a : Act} {w : World} {n : Nat}

/-- What the law and the law within a round share: the rounds of the loop l, whose record lies at l, with a second block D that is the law's own. -/
theorem seqC_rounds {rec : LoopState → Option Code → Loop} {fn : FuncId} {l D B : Nat} {dobj : Obj} (hrec : ∀ st pe, rec st pe = { rec .ready none with state := st, pending := pe }) (hfn : (rec .ready none).fn = fn) (hps' : (rec .ready none).params = ps) (hps : ps.size = 1) (htm : (rec .ready none).tmps = a.tmps) (has : (rec .ready none).assign = assign) (hbo : (rec .ready none).body = body)
    {gf : Nat} {lb : Array Value} {L : List (List UInt8)} {Kr : Nat → Prop} {W1 : World} (hseq : SeqC P gf lb L Kr W1) (hBl : B ≤ l) (hBD : B ≤ D) (hB1 : B ≤ W1.heap.size)
    (I : List (List UInt8) → (Nat → Prop) → World → Prop) (Ix : Code → List (List UInt8) → (Nat → Prop) → World → Prop) (C0 : Nat → Prop) (hI : Std B I) (hIx : ∀ c, Std B (Ix c)) (hBd : Bnd I) (hKr : ∀ k, Kr k → k < W1.heap.size ∧ ¬ C0 k ∧ k ≠ l ∧ k ≠ D)
    (h0 : I [] C0 W1) (hL1 : W1.heap[l]? = some (.loop (rec .ready none))) (hD1 : l = D ∨ W1.heap[D]? = some dobj) (hC0 : ¬ C0 l ∧ ¬ C0 D) (a₁ : ByteArray → Act)
    (hassign : ∀ (x : ByteArray) (W : World) (K : Act → World → Prop), K (a₁ x) W →
      assign.wpIn (Fence.wide.inRound l) 0 P (Exit.then K (fun _ _ _ => False)) { tmps := (ps.zip #[Value.string x]).foldl (fun t (p, v) => t.setIfInBounds p v) a.tmps, defers := [] } W)
    (hbody : ∀ (pre : List (List UInt8)) (x : ByteArray) (C : Nat → Prop) (W : World), ¬ C l → (∃ r, W.heap[l]? = some (.loop r)) → x.size ≤ 1000000000 → pre ++ [ls x] <+: L → I pre C W →
      body.wpIn (Fence.wide.inRound l) 0 P (postC I Ix (pre ++ [ls x]) C W) (a₁ x) W) :
    Calls P gf (#[.func (.yield l) #[] #[]] ++ lb) W1 fun e W' => (∃ v, e = .returned v) ∧
      ((∃ C', I L C' W' ∧ ¬ C' l ∧ ¬ C' D ∧ W'.heap[l]? = some (.loop (rec .ready none)) ∧ (l = D ∨ W'.heap[D]? = some dobj)) ∨
       ∃ pre c C', pre <+: L ∧ Ix c pre C' W' ∧ ¬ C' l ∧ ¬ C' D ∧ W'.heap[l]? = some (.loop (rec .done (some c))) ∧ (l = D ∨ W'.heap[D]? = some dobj)) := by
  have hout : ∀ {A Z : World} {row : Option Nat} {Ci : Nat → Prop} {k : Nat} {o : Obj}, A.grownBy Z row → (∀ r, row = some r → W1.heap.size ≤ r ∧ ¬ (orC Ci l D) r) → k = l ∨ k = D → A.heap[k]? = some o → Z.heap[k]? = some o := by
    intro A Z row Ci k o hg hr hk ho
    refine (hg.block k (Array.getElem?_eq_some_iff.1 ho).1 fun e => ?_).trans ho
    have := (hr k e.symm).2
    rcases hk with rfl | rfl
    · exact this (.inr (.inl rfl))
    · exact this (.inr (.inr rfl))
  have hin : ∀ {row : Option Nat} {Ci : Nat → Prop}, (∀ r, row = some r → W1.heap.size ≤ r ∧ ¬ (orC Ci l D) r) → ∀ r, row = some r → B ≤ r ∧ ¬ Ci r := fun hr r e => ⟨Nat.le_trans hB1 (hr r e).1, fun hc => (hr r e).2 (.inl hc)⟩
  refine (hseq l
    (fun pre C W => ∃ Ci, C = orC Ci l D ∧ I pre Ci W ∧ ¬ Ci l ∧ ¬ Ci D ∧ W.heap[l]? = some (.loop (rec .ready none)) ∧ (l = D ∨ W.heap[D]? = some dobj))
    (fun pre C W => ∃ Ci c, C = orC Ci l D ∧ Ix c pre Ci W ∧ ¬ Ci l ∧ ¬ Ci D ∧ W.heap[l]? = some (.loop (rec .done (some c))) ∧ (l = D ∨ W.heap[D]? = some dobj))
    (orC C0 l D)
    (fun s C A Z row hs hg hr => by
      obtain ⟨Ci, rfl, hi, h1, h2, hl, hk⟩ := hs
      exact ⟨Ci, rfl, hI s Ci A Z row hi hg (hin hr), h1, h2, hout hg hr (.inl rfl) hl, hk.imp id fun hk => hout hg hr (.inr rfl) hk⟩)
    (fun s C A Z row hs hg hr => by
      obtain ⟨Ci, c, rfl, hi, h1, h2, hl, hk⟩ := hs
      exact ⟨Ci, c, rfl, hIx c s Ci A Z row hi hg (hin hr), h1, h2, hout hg hr (.inl rfl) hl, hk.imp id fun hk => hout hg hr (.inr rfl) hk⟩)
    (fun s C W hs k hk => by
      obtain ⟨Ci, rfl, hi, h1, h2, hl, hd⟩ := hs
      rcases hk with hk | rfl | rfl
      · exact hBd s Ci W hi k hk
      · exact (Array.getElem?_eq_some_iff.1 hl).1
      · rcases hd with rfl | hd
        · exact (Array.getElem?_eq_some_iff.1 hl).1
        · exact (Array.getElem?_eq_some_iff.1 hd).1)
    (fun k hk => ⟨(hKr k hk).1, by
      rintro (h | h | h)
      · exact (hKr k hk).2.1 h
      · exact (hKr k hk).2.2.1 h
      · exact (hKr k hk).2.2.2 h⟩)
    ?_ ⟨C0, rfl, h0, hC0.1, hC0.2, hL1, hD1⟩).mono ?_
  · rintro pre x C W hxs hpre ⟨Ci, rfl, hi, hnl, hnd, hl, hd⟩
    have hlt : l < W.heap.size := (Array.getElem?_eq_some_iff.1 hl).1
    have hdt : D < W.heap.size := by
      rcases hd with rfl | hd
      · exact hlt
      · exact (Array.getElem?_eq_some_iff.1 hd).1
    have hy := run_yield (P := P) (args := #[Value.string x]) hl (by rw [hps', hps]; rfl)
    rw [hfn, hps', htm, has, hbo] at hy
    obtain ⟨W2, hW2⟩ : ∃ W2, W2 = W.putObj l (.loop { rec .ready none with state := .busy }) := ⟨_, rfl⟩
    have hl2 : W2.heap[l]? = some (.loop { rec .ready none with state := .busy }) := by rw [hW2]; exact World.putObj_heap_same hlt
    have hd2 : l = D ∨ W2.heap[D]? = some dobj := by
      rcases hd with h | h
      · exact .inl h
      · by_cases he : l = D
        · exact .inl he
        · exact .inr (by rw [hW2]; exact (World.putObj_heap_other (fun e => he e.symm)).trans h)
    have hs2 : W2.heap.size = W.heap.size := by rw [hW2]; exact World.putObj_size
    have hi2 : I pre Ci W2 := by rw [hW2]; exact hI.put hi hBl hnl _
    have hg2 : Grow (orC Ci l D) (orC Ci l D) W W2 := ⟨by omega, fun k hk hc => by rw [hW2]; exact World.putObj_heap_other (fun e => hc (.inr (.inl e))), fun _ h => .inl h⟩
    refine ⟨fn, _, assign, body, hy, roundIn_of_wpIn trivial (hassign x W _ ⟨W2, by rw [hW2]; exact run_beginRound hl (by rw [hrec]), ?_⟩)⟩
    refine wpIn_mono (hbody pre x Ci W2 hnl ⟨_, hl2⟩ hxs hpre hi2) ?_
    have fin : ∀ (jump : Option Code) (C' : Nat → Prop) (W3 : World), Grow Ci C' W2 W3 →
        ∃ W4, (Instr.endRound l jump).run P W3 = .ok (.bool jump.isNone) W4 ∧ Grow (orC Ci l D) (orC C' l D) W W4 ∧ ¬ C' l ∧ ¬ C' D ∧
        (∀ (J : List (List UInt8) → (Nat → Prop) → World → Prop) (s : List (List UInt8)), Std B J → J s C' W3 → J s C' W4) ∧
        W4.heap[l]? = some (.loop (rec (if jump.isNone then .ready else .done) jump)) ∧ (l = D ∨ W4.heap[D]? = some dobj) := by
      intro jump C' W3 hg
      have hlt3 : l < W2.heap.size := by omega
      have hdt3 : D < W2.heap.size := by omega
      have hl3 : W3.heap[l]? = some (.loop { rec .ready none with state := .busy }) := (hg.same l hlt3 hnl).trans hl2
      have hn1 := hg.not hlt3 hnl
      have hn2 := hg.not hdt3 hnd
      have he := run_endRound (P := P) jump hl3
      have e1 : ({ { rec .ready none with state := .busy } with state := if jump.isNone then .ready else .done, pending := jump } : Loop) = rec (if jump.isNone then .ready else .done) jump := by rw [hrec (if jump.isNone then .ready else .done) jump]
      rw [e1] at he
      have hz3 := (Array.getElem?_eq_some_iff.1 hl3).1
      refine ⟨_, he, ?_, hn1, hn2, fun J s hJ hs => hJ.put hs hBl hn1 _, World.putObj_heap_same hz3, ?_⟩
      · refine hg2.trans ⟨?_, fun k hk hc => ?_, fun k hk => ?_⟩
        · rw [World.putObj_size]; exact hg.size
        · have hk1 : ¬ Ci k := fun h => hc (.inl h)
          have hk2 : k ≠ l := fun h => hc (.inr (.inl h))
          exact (World.putObj_heap_other (fun e => hk2 e)).trans (hg.same k hk hk1)
        · rcases hk with hk | hk
          · exact (hg.own k hk).imp .inl id
          · exact .inl (.inr hk)
      · rcases hd2 with h | h
        · exact .inl h
        · by_cases hq : l = D
          · exact .inl hq
          · exact .inr ((World.putObj_heap_other (fun e => hq e.symm)).trans ((hg.same D hdt3 hnd).trans h))
    rintro e a3 W3 hp
    cases e with
    | normal =>
      obtain ⟨C', hg3, hi3⟩ := hp
      obtain ⟨W4, hr, hg4, hn1, hn2, hj, hl4, hk4⟩ := fin none C' W3 hg3
      exact ⟨_, _, hr, _, hg4, .inl ⟨rfl, C', rfl, hj I _ hI hi3, hn1, hn2, hl4, hk4⟩⟩
    | ret =>
      obtain ⟨C', hg3, hi3⟩ := hp
      obtain ⟨W4, hr, hg4, hn1, hn2, hj, hl4, hk4⟩ := fin (some .ret) C' W3 hg3
      exact ⟨_, _, hr, _, hg4, .inr ⟨rfl, C', .ret, rfl, hj (Ix .ret) _ (hIx _) hi3, hn1, hn2, hl4, hk4⟩⟩
    | exit id =>
      obtain ⟨C', hg3, hi3⟩ := hp
      obtain ⟨W4, hr, hg4, hn1, hn2, hj, hl4, hk4⟩ := fin (some (.exit id)) C' W3 hg3
      exact ⟨_, _, hr, _, hg4, .inr ⟨rfl, C', .exit id, rfl, hj (Ix (.exit id)) _ (hIx _) hi3, hn1, hn2, hl4, hk4⟩⟩
    | goto t =>
      obtain ⟨C', hg3, hi3⟩ := hp
      obtain ⟨W4, hr, hg4, hn1, hn2, hj, hl4, hk4⟩ := fin (some (.goto t)) C' W3 hg3
      exact ⟨_, _, hr, _, hg4, .inr ⟨rfl, C', .goto t, rfl, hj (Ix (.goto t)) _ (hIx _) hi3, hn1, hn2, hl4, hk4⟩⟩
    | panic ch => exact hp.elim
    | outgrown => exact hp.elim
  · rintro e W2 ⟨hv, C', (⟨Ci, rfl, hi, h1, h2, hl, hd⟩ | ⟨pre, hp, Ci, c, rfl, hi, h1, h2, hl, hd⟩)⟩
    · exact ⟨hv, .inl ⟨Ci, hi, h1, h2, hl, hd⟩⟩
    · exact ⟨hv, .inr ⟨pre, c, Ci, hp, hi, h1, h2, hl, hd⟩⟩

/-- A range over such an iterator, in a function's own frame. -/
theorem wpIn_range_C {gf : Nat} {lb : Array Value} (hg : a.eval g = .func (.func gf) #[] lb) (eg : ∀ args w, (callFunc gf args).run P w = .ok (.enter gf args) w) {L : List (List UInt8)} {Kr : Nat → Prop}
    (hseq : ∀ W0, w.grownBy W0 none → SeqC P gf lb L Kr W0) (hps : ps.size = 1)
    (I : List (List UInt8) → (Nat → Prop) → World → Prop) (Ix : Code → List (List UInt8) → (Nat → Prop) → World → Prop) (C0 : Nat → Prop) (hI : Std w.heap.size I) (hIx : ∀ c, Std w.heap.size (Ix c)) (hBd : Bnd I) (hKr : ∀ k, Kr k → k < w.heap.size ∧ ¬ C0 k)
    (h0 : I [] C0 w) (a₁ : ByteArray → Act)
    (hassign : ∀ (l : Nat) (x : ByteArray) (W : World) (K : Act → World → Prop), K (a₁ x) W →
      assign.wpIn (Fence.wide.inRound l) 0 P (Exit.then K (fun _ _ _ => False)) { tmps := (ps.zip #[Value.string x]).foldl (fun t (p, v) => t.setIfInBounds p v) a.tmps, defers := [] } W)
    (hbody : ∀ (l : Nat) (pre : List (List UInt8)) (x : ByteArray) (C : Nat → Prop) (W : World), w.heap.size ≤ l → ¬ C l → (∃ r, W.heap[l]? = some (.loop r)) → x.size ≤ 1000000000 → pre ++ [ls x] <+: L → I pre C W →
      body.wpIn (Fence.wide.inRound l) 0 P (postC I Ix (pre ++ [ls x]) C W) (a₁ x) W)
    (hdone : ∀ (D : Nat) (C : Nat → Prop) (W : World), w.heap.size ≤ D → ¬ C D → I L C W → W.heap[D]? = some (.deferred (some [])) → Q .normal { a with defers := { target := .collected D, args := #[] } :: a.defers } W)
    (hstop : ∀ (D : Nat) (c : Code) (pre : List (List UInt8)) (C : Nat → Prop) (W : World), w.heap.size ≤ D → ¬ C D → pre <+: L → Ix c pre C W → W.heap[D]? = some (.deferred (some [])) → c.wpIn Fence.wide n P Q { a with defers := { target := .collected D, args := #[] } :: a.defers } W) :
    (Code.rangeFunc g ps assign body).wpIn Fence.wide n P Q a w := by
  refine wpIn_rangeFunc ?_
  intro fn hfn
  obtain ⟨D, hD⟩ : ∃ D, D = w.heap.size := ⟨_, rfl⟩
  obtain ⟨lp, hlp⟩ : ∃ lp : LoopState → Option Code → Loop, lp = fun st pe => { state := st, pending := pe, fn, tmps := a.tmps, params := ps, assign, body, defers := w.heap.size } := ⟨_, rfl⟩
  obtain ⟨W1, hW1⟩ : ∃ W1, W1 = (w.alloc (.deferred (some []))).alloc (.loop (lp .ready none)) := ⟨_, rfl⟩
  have hL1 : W1.heap[D + 1]? = some (.loop (lp .ready none)) := by
    have := World.alloc_heap_new (w.alloc (.deferred (some []))) (.loop (lp .ready none))
    rw [World.size_alloc] at this
    rw [hW1, hD]
    exact this
  have hK1 : W1.heap[D]? = some (.deferred (some [])) := by
    rw [hW1, hD]
    exact (Below.heap_alloc _ _ _ (by simp)).trans (World.alloc_heap_new w _)
  have hz1 : W1.heap.size = w.heap.size + 2 := by rw [hW1]; simp
  have hg1 : w.grownBy W1 none := by
    have g1 := World.grownBy_alloc w (.deferred (some [])) none
    have g2 := World.grownBy_alloc (w.alloc (.deferred (some []))) (.loop (lp .ready none)) none
    rw [hW1]
    exact ⟨g2.os.trans g1.os, g2.tape.trans g1.tape, g2.output.trans g1.output, Nat.le_trans g1.size g2.size, fun k hk hr => (g2.block k (Nat.lt_of_lt_of_le hk g1.size) hr).trans (g1.block k hk hr)⟩
  have hI1 : I [] C0 W1 := hI _ _ _ _ none h0 hg1 (fun r e => by cases e)
  have hC0 : ¬ C0 (D + 1) ∧ ¬ C0 D := ⟨fun h => by have := hBd _ _ _ h0 _ h; omega, fun h => by have := hBd _ _ _ h0 _ h; omega⟩
  refine ⟨D + 1, [{ target := .collected D, args := #[] }], W1, { target := .fn (.func gf) lb, args := #[.func (.yield (D + 1)) #[] #[]] }, W1, gf, #[.func (.yield (D + 1)) #[] #[]] ++ lb, W1, ?_, ?_, ?_, ?_, (fun h => by cases h), ?_⟩
  · rw [hW1, hlp, hD]
    exact run_enterLoop_outer _ _ _ _ _
  · simp only [resolve, hg]
    simp [go_sem]
  · intro f' hf'
    trivial
  · simp [invoke, go_sem, eg]
  · refine callsIn_wide.2 ((seqC_rounds (rec := lp) (fn := fn) (ps := ps) (a := a) (assign := assign) (body := body) (dobj := .deferred (some [])) (B := w.heap.size) (l := D + 1) (D := D) (by intro st pe; rw [hlp]) (by rw [hlp]) (by rw [hlp]) hps (by rw [hlp]) (by rw [hlp]) (by rw [hlp]) (hseq W1 hg1) (by omega) (by omega) (by omega) I Ix C0 hI hIx hBd
      (fun k hk => ⟨by have := (hKr k hk).1; omega, (hKr k hk).2, by have := (hKr k hk).1; omega, by have := (hKr k hk).1; omega⟩) hI1 hL1 (.inr hK1) hC0 a₁ (fun x W K h => hassign _ x W K h)
      (fun pre x C W hc hr hx hp hi => hbody _ pre x C W (by omega) hc hr hx hp hi)).mono ?_)
    rintro e W2 ⟨⟨v, rfl⟩, (⟨C', hi, h1, h2, hl, hd⟩ | ⟨pre, c, C', hp, hi, h1, h2, hl, hd⟩)⟩
    · have he := run_endLoop (P := P) hl (by rw [hlp]; simp)
      rw [hlp] at he
      refine ⟨none, _, he, ?_⟩
      exact hdone D C' _ (by omega) h2 (hI.put hi (by omega) h1 _) ((World.putObj_heap_other (by omega)).trans (hd.resolve_left (by omega)))
    · have he := run_endLoop (P := P) hl (by rw [hlp]; simp)
      rw [hlp] at he
      refine ⟨some c, _, he, ?_⟩
      exact hstop D c pre C' _ (by omega) h2 hp ((hIx c).put hi (by omega) h1 _) ((World.putObj_heap_other (by omega)).trans (hd.resolve_left (by omega)))

/-- The same within a round of the loop l₀. -/
theorem wpIn_range_CN {l₀ : Nat} {r₀ : Loop} (hl₀ : w.heap[l₀]? = some (.loop r₀)) {gf : Nat} {lb : Array Value} (hg : a.eval g = .func (.func gf) #[] lb) (eg : ∀ args w, (callFunc gf args).run P w = .ok (.enter gf args) w) {L : List (List UInt8)} {Kr : Nat → Prop}
    (hseq : ∀ W0, w.grownBy W0 none → SeqC P gf lb L Kr W0) (hps : ps.size = 1)
    (I : List (List UInt8) → (Nat → Prop) → World → Prop) (Ix : Code → List (List UInt8) → (Nat → Prop) → World → Prop) (C0 : Nat → Prop) (hI : Std w.heap.size I) (hIx : ∀ c, Std w.heap.size (Ix c)) (hBd : Bnd I) (hKr : ∀ k, Kr k → k < w.heap.size ∧ ¬ C0 k)
    (h0 : I [] C0 w) (a₁ : ByteArray → Act)
    (hassign : ∀ (l : Nat) (x : ByteArray) (W : World) (K : Act → World → Prop), K (a₁ x) W →
      assign.wpIn (Fence.wide.inRound l) 0 P (Exit.then K (fun _ _ _ => False)) { tmps := (ps.zip #[Value.string x]).foldl (fun t (p, v) => t.setIfInBounds p v) a.tmps, defers := [] } W)
    (hbody : ∀ (l : Nat) (pre : List (List UInt8)) (x : ByteArray) (C : Nat → Prop) (W : World), w.heap.size ≤ l → ¬ C l → (∃ r, W.heap[l]? = some (.loop r)) → x.size ≤ 1000000000 → pre ++ [ls x] <+: L → I pre C W →
      body.wpIn (Fence.wide.inRound l) 0 P (postC I Ix (pre ++ [ls x]) C W) (a₁ x) W)
    (hdone : ∀ (C : Nat → Prop) (W : World), I L C W → Q .normal a W)
    (hstop : ∀ (c : Code) (pre : List (List UInt8)) (C : Nat → Prop) (W : World), pre <+: L → Ix c pre C W → c.wpIn (Fence.wide.inRound l₀) n P Q a W) :
    (Code.rangeFunc g ps assign body).wpIn (Fence.wide.inRound l₀) n P Q a w := by
  refine wpIn_rangeFunc ?_
  intro fn hfn
  obtain ⟨D, hD⟩ : ∃ D, D = w.heap.size := ⟨_, rfl⟩
  obtain ⟨lp, hlp⟩ : ∃ lp : LoopState → Option Code → Loop, lp = fun st pe => { state := st, pending := pe, fn, tmps := a.tmps, params := ps, assign, body, defers := r₀.defers } := ⟨_, rfl⟩
  obtain ⟨W1, hW1⟩ : ∃ W1, W1 = w.alloc (.loop (lp .ready none)) := ⟨_, rfl⟩
  have hL1 : W1.heap[D]? = some (.loop (lp .ready none)) := by rw [hW1, hD]; exact World.alloc_heap_new w _
  have hz1 : W1.heap.size = w.heap.size + 1 := by rw [hW1]; simp
  have hg1 : w.grownBy W1 none := by rw [hW1]; exact World.grownBy_alloc w _ none
  have hI1 : I [] C0 W1 := hI _ _ _ _ none h0 hg1 (fun r e => by cases e)
  have hC0 : ¬ C0 D ∧ ¬ C0 D := ⟨fun h => by have := hBd _ _ _ h0 _ h; omega, fun h => by have := hBd _ _ _ h0 _ h; omega⟩
  refine ⟨D, [], W1, { target := .fn (.func gf) lb, args := #[.func (.yield D) #[] #[]] }, W1, gf, #[.func (.yield D) #[] #[]] ++ lb, W1, ?_, ?_, ?_, ?_, (fun h => by cases h), ?_⟩
  · rw [hW1, hlp, hD]
    exact run_enterLoop_inner hl₀ _ _ _ _ _
  · simp only [resolve, hg]
    simp [go_sem]
  · intro f' hf'
    trivial
  · simp [invoke, go_sem, eg]
  · refine CallsIn.inRound l₀ (callsIn_wide.2 ((seqC_rounds (rec := lp) (fn := fn) (ps := ps) (a := a) (assign := assign) (body := body) (dobj := .deferred (some [])) (B := w.heap.size) (l := D) (D := D) (by intro st pe; rw [hlp]) (by rw [hlp]) (by rw [hlp]) hps (by rw [hlp]) (by rw [hlp]) (by rw [hlp]) (hseq W1 hg1) (by omega) (by omega) (by omega) I Ix C0 hI hIx hBd
      (fun k hk => ⟨by have := (hKr k hk).1; omega, (hKr k hk).2, by have := (hKr k hk).1; omega, by have := (hKr k hk).1; omega⟩) hI1 hL1 (.inl rfl) hC0 a₁ (fun x W K h => hassign _ x W K h)
      (fun pre x C W hc hr hx hp hi => hbody _ pre x C W (by omega) hc hr hx hp hi)).mono ?_))
    rintro e W2 ⟨⟨v, rfl⟩, (⟨C', hi, h1, h2, hl, hd⟩ | ⟨pre, c, C', hp, hi, h1, h2, hl, hd⟩)⟩
    · have he := run_endLoop (P := P) hl (by rw [hlp]; simp)
      rw [hlp] at he
      refine ⟨none, _, he, ?_⟩
      exact hdone C' _ (hI.put hi (by omega) h1 _)
    · have he := run_endLoop (P := P) hl (by rw [hlp]; simp)
      rw [hlp] at he
      refine ⟨some c, _, he, ?_⟩
      exact hstop c pre C' _ hp ((hIx c).put hi (by omega) h1 _)
end

end Go.Proofs.Ytmfoegpdjajicaa
