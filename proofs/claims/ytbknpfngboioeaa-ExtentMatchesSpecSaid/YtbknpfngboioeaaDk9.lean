/-
  The contract of Sync.
-/
import Derived.Test.YtbknpfngboioeaaDk8
import Derived.Test.YtbknpfngboioeaaMapL
namespace Go.Proofs.Ytbknpfngboioeaa
open Go.RowKit

theorem PDx.keep {w w' : World} {F G : Nat → Prop} {a n : Nat} {S : Dsk} {sb mb m c : Nat} {A : Option Addr} {D : DataW Value} (h : PDx w F a n S sb mb A m c D) (hf : Frm G w w') (hG : ∀ b, G b → F b → False) : PDx w' F a n S sb mb A m c D := by
  have hk : ∀ b o, F b → w.heap[b]? = some o → w'.heap[b]? = some o := fun b o hb ho => hf.obj ho fun hg => hG b hg hb
  exact ⟨h.ok, hk _ _ h.fa h.cells, hk _ _ h.fs h.row, maps_frm h.map hf fun hg => hG _ hg h.fm, h.has, fun i xs hi => by
    obtain ⟨g, h1, h2, h3, h4⟩ := h.val i xs hi
    exact ⟨g, h1, h2, h3, hk _ _ h2 h4⟩, h.flt.keep hk, h.m64, h.fa, h.fs, h.fm, fun k hk' => by have := h.lt k hk'; have := hf.size; omega⟩
/-- Other stored contents. -/
def Dsk.withSt (S : Dsk) (st : Nat → List UInt8) : Dsk := { S with st := st }
theorem PDx.setSt {w w' : World} {F : Nat → Prop} {a n : Nat} {S : Dsk} {sb mb m c : Nat} {A : Option Addr} {D : DataW Value} (h : PDx w F a n S sb mb A m c D) (hf : Frm (fun b => b = sb) w w') (st : Nat → List UInt8)
    (hs : ∀ i, i < n → (st i).length = 64) (hrow : w'.heap[sb]? = some (.cells ((flat n st).map bv).toArray 5 (0, 0))) : PDx w' F a n (S.withSt st) sb mb A m c D := by
  have hne : ∀ (b : Nat) (o : Obj), w.heap[b]? = some o → b ≠ sb → w'.heap[b]? = some o := fun b o ho hn => hf.obj ho hn
  have hty : ∀ (b : Nat) (cs : Array Value) (t : TypeId) (f : Nat × Nat), t ≠ 5 → w.heap[b]? = some (.cells cs t f) → w'.heap[b]? = some (.cells cs t f) := fun b cs t f ht ho => hne b _ ho (by
    rintro rfl
    rw [h.row] at ho
    injection ho with ho
    injection ho with _ ho _
    exact ht ho.symm)
  refine ⟨⟨h.ok.n1, h.ok.n4, hs, h.ok.ca, h.ok.c0, h.ok.c1⟩, hty _ _ _ _ (by decide) h.cells, hrow, maps_frm h.map hf ?_, h.has, fun i xs hi => ?_, ⟨h.flt.1, fun h0 => ?_⟩, h.m64, h.fa, h.fs, h.fm, fun k hk => by have := h.lt k hk; have := hf.size; omega⟩
  · rintro rfl
    obtain ⟨es, cl, e, _⟩ := h.map
    rw [h.row] at e
    cases e
  · obtain ⟨g, h1, h2, h3, h4⟩ := h.val i xs hi
    exact ⟨g, h1, h2, h3, hne _ _ h4 h3⟩
  · obtain ⟨b, cur, e, hb, hc, r⟩ := h.flt.2 h0
    exact ⟨b, cur, e, hb, hty _ _ _ _ (by decide) hc, r⟩
/-- The stored contents spelled anew. -/
theorem PDx.congr {w : World} {F : Nat → Prop} {a n : Nat} {S : Dsk} {sb mb m c : Nat} {A : Option Addr} {D : DataW Value} (h : PDx w F a n S sb mb A m c D) (st : Nat → List UInt8) (hs : ∀ i, i < n → S.st i = st i) : PDx w F a n (S.withSt st) sb mb A m c D := by
  refine ⟨⟨h.ok.n1, h.ok.n4, fun i hi => by show (st i).length = 64; rw [← hs i hi]; exact h.ok.st i hi, h.ok.ca, h.ok.c0, h.ok.c1⟩, h.cells, ?_, h.map, h.has, h.val, h.flt, h.m64, h.fa, h.fs, h.fm, h.lt⟩
  show w.heap[sb]? = some (.cells ((flat n st).map bv).toArray 5 (0, 0))
  rw [← flat_congr hs]
  exact h.row
theorem PD.congr {w : World} {F : Nat → Prop} {a n : Nat} {S : Dsk} (h : PD w F a n S) (st : Nat → List UInt8) (hs : ∀ i, i < n → S.st i = st i) : PD w F a n (S.withSt st) := by
  obtain ⟨sb, mb, A, m, c, D, h⟩ := h
  exact ⟨sb, mb, A, m, c, D, h.congr st hs⟩
/-- The cache was emptied. -/
theorem PDx.cleared {w w' : World} {F : Nat → Prop} {a n : Nat} {S : Dsk} {sb mb m c : Nat} {A : Option Addr} {D : DataW Value} (h : PDx w F a n S sb mb A m c D) (hown : w'.ownsMap Try.prog 3 heldR mb 0 (.map [])) (ht : w.mapTurned w' mb) :
    PDx w' F a n { S with ca := fun _ => none } sb mb A m c (.map []) ∧ Frm (fun b => b = mb) w w' := by
  have hf : Frm (fun b => b = mb) w w' := Frm.of_grown ht.grown fun b e => (Option.some.inj e).symm
  have hk : ∀ (b : Nat) (cs : Array Value) (t : TypeId) (f : Nat × Nat), w.heap[b]? = some (.cells cs t f) → w'.heap[b]? = some (.cells cs t f) := fun b cs t f ho => hf.obj ho (by
    rintro rfl
    obtain ⟨es, cl, e, _⟩ := h.map
    rw [ho] at e
    cases e)
  refine ⟨⟨⟨h.ok.n1, h.ok.n4, h.ok.st, fun _ _ e => (by cases e), h.ok.c0, h.ok.c1⟩, hk _ _ _ _ h.cells, hk _ _ _ _ h.row, hown.mono (Nat.zero_le _), fun x => ⟨fun e => by simp [Maps.has] at e, fun ⟨_, _, e⟩ => by cases e⟩, fun _ _ e => (by cases e), ⟨h.flt.1, fun h0 => ?_⟩, h.m64, h.fa, h.fs, h.fm, fun k hk => by have := h.lt k hk; have := hf.size; omega⟩, hf⟩
  obtain ⟨b, cur, e, hb, hc, r⟩ := h.flt.2 h0
  exact ⟨b, cur, e, hb, hk _ _ _ _ hc, r⟩

/-- In the middle of a Sync: what is still to come is stored as it was. -/
def mixSt (S : Dsk) (left : Lit → Bool) : Nat → List UInt8 := fun i => if left (.int .i64 (i : Int)) then S.st i else S.sec i
theorem mix_step (S : Dsk) (left : Lit → Bool) (i : Nat) (xs : List UInt8) (hi : S.ca i = some xs) (j : Nat) : upd (mixSt S left) i xs j = mixSt S (fun z => left z && !z.sameKey (.int .i64 (i : Int))) j := by
  by_cases hji : j = i
  · subst hji
    simp [upd_same, mixSt, Lit.sameKey, Dsk.sec, hi]
  · rw [upd_other _ _ hji]
    have : (Lit.int .i64 (j : Int)).sameKey (.int .i64 (i : Int)) = false := by
      simp [Lit.sameKey]; omega
    simp [mixSt, this]

/-- The step of a range over the cache. -/
theorem wpList_next_disk {w : World} {ops : Array Oper} {rest : List Oper} {o : Oper} {a : Act} {Q : Exit → Act → World → Prop} (hg : o.guard = none) (it : Operand) (hop : o.op = Op.next it false) (mb r nn : Nat) (D : DataW Value) (left : Lit → Bool) (cnt : Nat)
    (hit : a.eval it = .pointer (some ⟨r, 0, none⟩)) (h : w.ranges Try.prog 3 heldR mb r nn D left cnt) (T : Nat → Nat → Prop)
    (hT : ∀ (x : Int) v, (∀ zd, D.atKey (.int .i64 x) zd = .held v) → ∃ i g : Nat, x = i ∧ v = .slice (some ⟨g, 0, none⟩) 64 64 ∧ T i g)
    (hDone : (∀ kl, left kl = false) → wpList Try.prog ops Q rest (a.put o.dst (.tuple #[.bool false])) w)
    (hMore : ∀ (i g : Nat) (w' : World) (cnt' : Nat), T i g → left (.int .i64 (i : Int)) = true → w'.ranges Try.prog 3 heldR mb r nn D (fun z => left z && !z.sameKey (.int .i64 (i : Int))) cnt' → cnt' < cnt → w.grownBy w' (some r) → w'.heap.size = w.heap.size →
      (Instr.entry (.pointer (some ⟨r, 0, none⟩))).run Try.prog w' = .ok (.tuple #[.int .i64 i, .slice (some ⟨g, 0, none⟩) 64 64]) w' → wpList Try.prog ops Q rest (a.put o.dst (.tuple #[.bool true, .int .i64 i, .slice (some ⟨g, 0, none⟩) 64 64])) w') :
    wpList Try.prog ops Q (o :: rest) a w := by
  refine wpList_next_ranges w hg it hop 3 kdInt heldR (Value.int .i64) id (fun key kl hk => by obtain ⟨x, rfl, _, _⟩ := Maps.keyOf_i64 tyInt hk; exact ⟨x, rfl⟩) (fun v y _ => ⟨v, rfl⟩) mb r nn D left cnt hit h (fun _ hl => hDone hl) ?_
  intro x v kl y w' cnt' hkey hlk hv hat hrg hlt hgr hsz hen
  obtain ⟨x', ex, rfl, _⟩ := Maps.keyOf_i64 tyInt hkey
  cases ex
  simp only [heldR, id, Option.some.injEq] at hv
  subst hv
  obtain ⟨i, g, rfl, rfl, hTi⟩ := hT x v hat
  exact hMore i g w' cnt' hTi hlk hrg hlt hgr hsz hen

end Go.Proofs.Ytbknpfngboioeaa
