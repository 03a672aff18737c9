/-
  The keys of the cache; a store into it. Contracts of Write.
-/
import Derived.Test.YtbknpfngboioeaaDk6
import Derived.Lib.SlKeysI
import Derived.Test.YtbknpfngboioeaaStill
namespace Go.Proofs.Ytbknpfngboioeaa
open Go.RowKit

def dirtyZ (n : Nat) (ca : Nat → Option (List UInt8)) : List Int := (dirty n ca).map fun (i : Nat) => (i : Int)
theorem dirty_nodup (n : Nat) (ca : Nat → Option (List UInt8)) : (dirtyZ n ca).Nodup := by
  unfold dirtyZ dirty
  refine List.pairwise_map.2 (List.Pairwise.filter _ ?_)
  exact List.nodup_range.imp fun h e => h (by omega)
theorem mem_dirtyZ {n : Nat} {S : Dsk} (h : S.Ok n) (x : Int) : x ∈ dirtyZ n S.ca ↔ ∃ i : Nat, x = i ∧ (S.ca i).isSome := by
  unfold dirtyZ dirty
  rw [List.mem_map]
  constructor
  · rintro ⟨i, hi, rfl⟩
    exact ⟨i, rfl, (List.mem_filter.1 hi).2⟩
  · rintro ⟨i, rfl, hi⟩
    refine ⟨i, List.mem_filter.2 ⟨List.mem_range.2 ?_, hi⟩, rfl⟩
    cases hc : S.ca i with
    | none => rw [hc] at hi; cases hi
    | some xs => exact (h.ca i xs hc).1
theorem keys_perm {w : World} {n nn mb : Nat} {S : Dsk} {D : DataW Value} (hok : S.Ok n) (hown : w.ownsMap Try.prog 3 heldR mb nn D) (hh : ∀ x : Int, Maps.has D (.int .i64 x) = true ↔ ∃ i : Nat, x = i ∧ (S.ca i).isSome) : (dirtyZ n S.ca).Perm (intKeys D) := by
  obtain ⟨es, hD, hpw, _⟩ := hown.entries kdInt
  obtain ⟨es', hD', hko⟩ := hown.keysOf
  obtain rfl : es = es' := by rw [hD] at hD'; simpa using hD'
  subst hD
  refine perm_intKeys hpw (fun p hp => by obtain ⟨v, hv⟩ := hko p hp; obtain ⟨x, _, hx, _⟩ := Maps.keyOf_i64 tyInt hv; exact ⟨x, hx⟩) (dirty_nodup n S.ca) fun x => ?_
  rw [mem_dirtyZ hok, hh]
theorem size_intKeys {H : Type} {D : DataW H} (h : Maps.IsMap D) : (intKeys D).length = Maps.size D := by
  obtain ⟨es, rfl⟩ := h
  simp [intKeys, Maps.size]
theorem keys_size {w : World} {n nn mb : Nat} {S : Dsk} {D : DataW Value} (hok : S.Ok n) (hown : w.ownsMap Try.prog 3 heldR mb nn D) (hh : ∀ x : Int, Maps.has D (.int .i64 x) = true ↔ ∃ i : Nat, x = i ∧ (S.ca i).isSome) : Maps.size D ≤ 4096 := by
  have h1 := (keys_perm hok hown hh).length_eq
  rw [size_intKeys hown.isMap] at h1
  have h2 : (dirtyZ n S.ca).length ≤ n := by
    unfold dirtyZ dirty
    rw [List.length_map]
    have := List.length_filter_le (fun i => (S.ca i).isSome) (List.range n)
    simpa using this
  have := hok.n4
  omega

theorem put_run {w w2 : World} {F : Nat → Prop} {a n : Nat} {S : Dsk} {sb mb m c : Nat} {A : Option Addr} {D : DataW Value} (h : PDx w F a n S sb mb A m c D) (hb : Below w.heap.size w w2) {g : Nat} (hg0 : w.heap.size ≤ g) {xs : List UInt8}
    (hrow : w2.heap[g]? = some (.cells (xs.map bv).toArray 5 (0, 0))) {i : Nat} (hi : i < n) (hx : xs.length = 64) :
    ∃ w3, (Instr.mapUpdate 83 (.map (some mb)) (.int .i64 i) (.slice (some ⟨g, 0, none⟩) 64 64)).run Try.prog w2 = .ok () w3 ∧ PD w3 (fun k => F k ∨ newF w w3 k) a n (S.put i xs) ∧ Frm F w w3 := by
  have h4 := h.ok.n4
  have hown2 := maps_frm h.map (Frm.of_below (F := fun _ => False) hb) fun h => h
  obtain ⟨w3, hrun, hown3, ht⟩ := hown2.store (val := .slice (some ⟨g, 0, none⟩) 64 64) kdInt tyMap (by unfold maxLen; omega) (keyInt (x := (i : Int)) (by omega) (by omega)) rfl
  have hg := ht.grown
  have hmb := h.lt mb h.fm
  have hsz := hb.size
  have hsz3 := hg.size
  have hk : ∀ (b : Nat) (o : Obj), b ≠ mb → w2.heap[b]? = some o → w3.heap[b]? = some o := fun b o hne ho => (hg.block b (lt_of_some ho) fun e => by injection e with e; exact hne e).trans ho
  have hmap2 : ∃ es cl, w2.heap[mb]? = some (.map es cl) := by obtain ⟨es, cl, e, _⟩ := hown2; exact ⟨es, cl, e⟩
  obtain ⟨es, cl, hmo⟩ := hmap2
  have hkc : ∀ (b : Nat) (cs : Array Value) (t : TypeId) (f : Nat × Nat), w2.heap[b]? = some (.cells cs t f) → w3.heap[b]? = some (.cells cs t f) := fun b cs t f ho => hk b _ (by rintro rfl; rw [hmo] at ho; cases ho) ho
  have hkc1 : ∀ (b : Nat) (cs : Array Value) (t : TypeId) (f : Nat × Nat), w.heap[b]? = some (.cells cs t f) → w3.heap[b]? = some (.cells cs t f) := fun b cs t f ho => hkc b cs t f ((hb.block b (lt_of_some ho)).trans ho)
  have hhas : ∀ x : Int, Maps.has (D.put (.int .i64 i) (.held (.slice (some ⟨g, 0, none⟩) 64 64))) (.int .i64 x) = true ↔ ∃ j : Nat, x = j ∧ ((S.put i xs).ca j).isSome := by
    intro x
    by_cases hxi : x = i
    · subst hxi
      rw [Maps.has_put_same h.map.isMap (show WideAt.IsKeyLit (.int .i64 (i : Int)) from trivial)]
      exact ⟨fun _ => ⟨i, rfl, by simp [Dsk.put, upd_same]⟩, fun _ => rfl⟩
    · rw [Maps.has_put_other (by intro e; injection e with _ e; exact hxi e), h.has]
      constructor
      · rintro ⟨j, rfl, hj⟩
        exact ⟨j, rfl, by simp only [Dsk.put]; rw [upd_other _ _ (by intro e; subst e; exact hxi rfl)]; exact hj⟩
      · rintro ⟨j, rfl, hj⟩
        refine ⟨j, rfl, ?_⟩
        simp only [Dsk.put] at hj
        rwa [upd_other _ _ (by intro e; subst e; exact hxi rfl)] at hj
  have hok' := h.ok.put hi hx
  refine ⟨w3, hrun, ⟨sb, mb, A, m, c, _, hok', hkc1 _ _ _ _ h.cells, hkc1 _ _ _ _ h.row, maps_tight hown3 _ (keys_size hok' hown3 hhas), hhas, ?_, ⟨h.flt.1, fun h0 => ?_⟩, h.m64, .inl h.fa, .inl h.fs, .inl h.fm, ?_⟩, ?_⟩
  · intro j ys hj
    by_cases hji : j = i
    · subst hji
      simp only [Dsk.put, upd_same, Option.some.injEq] at hj
      subst hj
      have hlt := lt_of_some hrow
      have hsb := h.lt sb h.fs
      exact ⟨g, fun zd => Maps.atKey_put_same h.map.isMap (show WideAt.IsKeyLit (.int .i64 (j : Int)) from trivial) _ _, .inr ⟨hg0, by omega⟩, by omega, hkc _ _ _ _ hrow⟩
    · simp only [Dsk.put, upd_other _ _ hji] at hj
      obtain ⟨g', h1, h2, h3, h4'⟩ := h.val j ys hj
      exact ⟨g', fun zd => (Maps.atKey_put_other (by intro e; injection e with _ e; omega) _ _).trans (h1 zd), .inl h2, h3, hkc1 _ _ _ _ h4'⟩
  · obtain ⟨b, cur, e, hFb, hc, r⟩ := h.flt.2 h0
    exact ⟨b, cur, e, .inl hFb, hkc1 _ _ _ _ hc, r⟩
  · rintro k (hk' | hk')
    · have := h.lt k hk'; omega
    · exact hk'.2
  · exact (Frm.of_below hb).trans (Frm.of_grown (F := fun b => b = mb) hg fun b e => (Option.some.inj e).symm) fun b e => .inl (e ▸ h.fm)

end Go.Proofs.Ytbknpfngboioeaa
