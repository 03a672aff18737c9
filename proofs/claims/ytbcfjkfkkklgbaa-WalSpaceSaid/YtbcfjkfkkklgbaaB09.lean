/-
Contracts of Read.
Steps of a region that draws its order, whose operations are guarded: the guard decided by computation. No program.
The keys of the cache; a store into it. Contracts of Write.
Contracts of Write.
clear of a map; copy into a block, the others staying. No program.
The contract of Sync.
-/
import Derived.Test.YtbcfjkfkkklgbaaB05
import Derived.Test.YtbcfjkfkkklgbaaB00
import Derived.StillTailTactics
import Derived.Lib.SlKeysI
import Derived.Test.YtbcfjkfkkklgbaaB02
import Derived.Laws.CopyOwn
namespace Go.Proofs.Ytbcfjkfkkklgbaa
section
open Go.RowKit

theorem tyInt : Try.prog.underlying 3 = some (.int .i64) := by kernel_rfl
theorem tyMap : Try.prog.underlying 96 = some (.map 3 34) := by kernel_rfl
theorem kdInt : Maps.Keyed Try.prog 3 := Maps.int_keyed tyInt
theorem zeroBs (w : World) : (zeroValue 34).run Try.prog w = .ok (.slice none 0 0) w := by kernel_rfl
theorem keyInt {x : Int} (h0 : -9223372036854775808 ≤ x) (h1 : x ≤ 9223372036854775807) : keyOf Try.prog 3 (.int .i64 x) = some (.int .i64 x) :=
  Maps.keyOf_int_mk tyInt (by simp [Lit.wf, IntKind.min, IntKind.max, IntKind.signed, IntKind.bits]; omega)

/-- A key that is there. -/
theorem look_hit {w : World} {F : Nat → Prop} {a n : Nat} {S : Dsk} {sb mb m c : Nat} {A : Option Addr} {D : DataW Value} (h : PDx w F a n S sb mb A m c D) {i : Nat} {xs : List UInt8} (hi : S.ca i = some xs) :
    ∃ g, (Instr.lookup 96 (.map (some mb)) (.int .i64 i) true).run Try.prog w = .ok (.tuple #[.slice (some ⟨g, 0, none⟩) 64 64, .bool true]) w ∧ F g ∧ g ≠ sb ∧ w.heap[g]? = some (.cells (xs.map bv).toArray 5 (0, 0)) := by
  obtain ⟨g, h1, h2, h3, h4⟩ := h.val i xs hi
  have hn := (h.ok.ca i xs hi).1
  have h4096 := h.ok.n4
  obtain ⟨v, ps, hr, hv⟩ := h.map.look_ok kdInt tyMap (zeroBs w) (zd := .held (.slice none 0 0)) (zp := []) rfl (keyInt (x := (i : Int)) (by omega) (by omega))
  rw [h1, (h.has i).2 ⟨i, rfl, by rw [hi]; rfl⟩] at *
  simp only [heldR, Option.some.injEq, Prod.mk.injEq, DataW.held.injEq] at hv
  rw [hv.1] at hr
  exact ⟨g, hr, h2, h3, h4⟩
/-- A key that isn't. -/
theorem look_miss {w : World} {F : Nat → Prop} {a n : Nat} {S : Dsk} {sb mb m c : Nat} {A : Option Addr} {D : DataW Value} (h : PDx w F a n S sb mb A m c D) {x : Int} (hx0 : -9223372036854775808 ≤ x) (hx1 : x ≤ 9223372036854775807)
    (hi : ∀ i : Nat, x = i → S.ca i = none) : (Instr.lookup 96 (.map (some mb)) (.int .i64 x) true).run Try.prog w = .ok (.tuple #[.slice none 0 0, .bool false]) w := by
  have hf : Maps.has D (.int .i64 x) = false := by
    cases hh : Maps.has D (.int .i64 x) with
    | false => rfl
    | true =>
      obtain ⟨i, e, hs⟩ := (h.has x).1 hh
      rw [hi i e] at hs
      cases hs
  obtain ⟨v, ps, hr, hv⟩ := h.map.look_ok kdInt tyMap (zeroBs w) (zd := .held (.slice none 0 0)) (zp := []) rfl (keyInt hx0 hx1)
  rw [Maps.atKey_of_not_has hf] at hv
  simp only [heldR, Option.some.injEq, Prod.mk.injEq, DataW.held.injEq] at hv
  rw [hv.1, hf] at hr
  exact hr

/-- A sector's stored bytes in memory. -/
theorem has_sector {w : World} {F : Nat → Prop} {a n : Nat} {S : Dsk} {sb mb m c : Nat} {A : Option Addr} {D : DataW Value} (h : PDx w F a n S sb mb A m c D) {i : Nat} (hi : i < n) :
    Has w w.heap.size (some ⟨sb, 64 * i, none⟩) 64 ((S.st i).map bv) := by
  have hl := h.ok.st i hi
  refine ⟨by simpa using hl, fun _ => ⟨sb, 64 * i, rfl, lt_of_some h.row, fun j hj => ?_⟩⟩
  have hj64 : j < 64 := by simp [hl] at hj; exact hj
  rw [cell_of_row w sb (64 * i + j) _ _ _ h.row]
  have := flat_get h.ok.st hi hj64
  simp [this, List.getElem?_eq_getElem (show j < (S.st i).length by omega)]

section
variable {w : World} {F : Nat → Prop} {a n : Nat} {S : Dsk}
theorem begin_err (h : PD w F a n S) (ok : Bool) (he : S.err ok ≠ 0) : Calls Try.prog 69 #[.pointer (some ⟨a, 0, none⟩), .bool ok] w fun e w' => e = .returned (.tuple #[.bool false, .int .i64 (S.err ok)]) ∧ PD w' F a n (S.begun ok) ∧ Frm F w w' := by
  refine (begin_any h ok).mono ?_
  rintro e w' ⟨rfl, r⟩
  exact ⟨by simp [he], r⟩
theorem begin_fine (h : PD w F a n S) (ok : Bool) (he : S.err ok = 0) : Calls Try.prog 69 #[.pointer (some ⟨a, 0, none⟩), .bool ok] w fun e w' => e = .returned (.tuple #[.bool (S.pow ok), .int .i64 0]) ∧ PD w' F a n (S.begun ok) ∧ Frm F w w' := by
  refine (begin_any h ok).mono ?_
  rintro e w' ⟨rfl, r⟩
  exact ⟨by simp [he], r⟩
theorem err_ok {S : Dsk} {ok : Bool} (h : S.err ok = 0) : ok = true := by
  unfold Dsk.err at h
  cases ok
  · split at h
    · omega
    · simp at h
  · rfl
end

set_option maxHeartbeats 800000 in
theorem read_err {w : World} {F : Nat → Prop} {a n : Nat} {S : Dsk} (h : PD w F a n S) (i : Int) (he : S.err (inR n i) ≠ 0) :
    Calls Try.prog 21 #[.pointer (some ⟨a, 0, none⟩), .int .i64 i] w fun e w' => e = .returned (.tuple #[.slice none 0 0, .int .i64 (S.err (inR n i))]) ∧ PD w' F a n (S.begun (inR n i)) ∧ Frm F w w' := by
  have hc := contains_any h i
  have hb := begin_err h (inR n i) he
  have he' : (S.err (inR n i) == 0) = false := by simpa using he
  clear he
  generalize S.err (inR n i) = er at *
  go_enter Try.func21, Try.ntmps21
  go_wp2_with (first
    | (go_at_call 70; refine hc.mono ?_; rintro e w' ⟨rfl, rfl⟩)
    | (go_at_call 69; refine hb.mono ?_; rintro e w1 ⟨rfl, hpd, hf⟩))
  go_ret2
  exact ⟨rfl, hpd, hf⟩
set_option maxHeartbeats 800000 in
theorem read_pow {w : World} {F : Nat → Prop} {a n : Nat} {S : Dsk} (h : PD w F a n S) (i : Int) (he : S.err (inR n i) = 0) (hp : S.pow (inR n i) = true) :
    Calls Try.prog 21 #[.pointer (some ⟨a, 0, none⟩), .int .i64 i] w fun e w' => e = .returned (.tuple #[.slice none 0 0, .int .i64 10]) ∧ PD w' F a n (S.begun (inR n i)).cut ∧ Frm F w w' := by
  have hc := contains_any h i
  have hb := begin_fine h (inR n i) he
  rw [hp] at hb
  clear he hp
  go_enter Try.func21, Try.ntmps21
  go_wp2_with (first
    | (go_at_call 70; refine hc.mono ?_; rintro e w' ⟨rfl, rfl⟩)
    | (go_at_call 69; refine hb.mono ?_; rintro e w1 ⟨rfl, hpd, hf⟩)
    | (go_at_call 31; refine (cut_any hpd).mono ?_; rintro e w2 ⟨rfl, hpd2, hf2⟩))
  go_ret2
  exact ⟨rfl, hpd2, hf.trans' hf2⟩
set_option maxHeartbeats 800000 in
theorem read_yes {w : World} {F : Nat → Prop} {a n : Nat} {S : Dsk} (h : PD w F a n S) (i : Nat) (hi : i < n) (he : S.err true = 0) (hp : S.pow true = false) :
    Calls Try.prog 21 #[.pointer (some ⟨a, 0, none⟩), .int .i64 i] w fun e w' => PD w' F a n (S.begun true) ∧ Frm F w w' ∧
      ∃ g, e = .returned (.tuple #[.slice (some ⟨g, 0, none⟩) 64 64, .int .i64 0]) ∧ w.heap.size ≤ g ∧ w'.heap[g]? = some (.cells ((S.sec i).map bv).toArray 5 (0, 0)) := by
  have hin : inR n (i : Int) = true := by simp [inR, hi]
  have hc := contains_any h i
  rw [hin] at hc
  have hb := begin_fine h true he
  rw [hp] at hb
  have hsec : Hid ((S.begun true).sec i = S.sec i) := by
    show _ = _
    unfold Dsk.begun
    split <;> rfl
  have hcab : (S.begun true).ca = S.ca := by unfold Dsk.begun; split <;> rfl
  have h4 := h.ok.n4
  have hH := Lib.hid (And.intro hi (And.intro h4 hcab))
  clear he hp hin hi h4 hcab
  cases hca : S.ca i with
  | some xs =>
    have hs : Hid (S.sec i = xs) := by show _ = _; simp [Dsk.sec, hca]
    have HC := Lib.hid hca
    clear hca
    go_enter Try.func21, Try.ntmps21
    go_wp2_with (first
      | (go_at_call 70; refine hc.mono ?_; rintro e w' ⟨rfl, rfl⟩)
      | (go_at_call 69; refine hb.mono ?_; rintro e w1 ⟨rfl, hpd, hf⟩; obtain ⟨sb, mb, A, m, c, D, hx⟩ := hpd; have c1 := hx.c1; obtain ⟨g1, hl, hg1, hg2, hrow⟩ := look_hit hx (i := i) (xs := xs) (by rw [hH.out.2.2]; exact HC.out); have HX := Lib.hid hx; have HG := Lib.hid hg2; have HR := Lib.hid hrow; clear hx hg2 hrow)
      | (go_at_call 71; refine (copied_any (some ⟨g1, 0, none⟩) 64 64 _ xs w1 (has_of_row HR.out (HX.out.ok.ca i xs (by rw [hH.out.2.2]; exact HC.out)).2) (Nat.le_refl _) (by omega)).mono ?_; rintro e w2 ⟨g, rfl, hg0, hrow2, hb2⟩))
    go_ret2
    have hpd : PD w1 F a n (S.begun true) := ⟨sb, mb, A, m, c, D, HX.out⟩
    have hsz := hf.size
    exact ⟨hpd.below hb2, hf.trans' (Frm.of_below hb2), g, rfl, by omega, by rw [hs.out]; exact hrow2⟩
  | none =>
    have hs : Hid (S.sec i = S.st i) := by show _ = _; simp [Dsk.sec, hca]
    have HC := Lib.hid hca
    clear hca
    have hstb : (S.begun true).st = S.st := by unfold Dsk.begun; split <;> rfl
    have HSB := Lib.hid hstb
    clear hstb
    go_enter Try.func21, Try.ntmps21
    go_wp2_with (first
      | (go_at_call 70; refine hc.mono ?_; rintro e w' ⟨rfl, rfl⟩)
      | (go_at_call 69; refine hb.mono ?_; rintro e w1 ⟨rfl, hpd, hf⟩; obtain ⟨sb, mb, A, m, c, D, hx⟩ := hpd; have c1 := hx.c1; have hl := look_miss hx (x := (i : Int)) (by omega) (by have := hH.out; omega) (fun j e => by rw [hH.out.2.2, show j = i by omega]; exact HC.out); have HX := Lib.hid hx; clear hx)
      | (go_at_call 72; refine (stored_any HX.out i hH.out.1).mono ?_; rintro e w' ⟨rfl, rfl⟩)
      | (go_at_call 71; refine (copied_any (some ⟨sb, 64 * i, none⟩) 64 (64 * n - 64 * i) w1.heap.size (S.st i) w1 (by rw [← HSB.out]; exact has_sector HX.out hH.out.1) (Nat.le_refl _) (by omega)).mono ?_; rintro e w2 ⟨g, rfl, hg0, hrow2, hb2⟩))
    go_ret2
    have hpd : PD w1 F a n (S.begun true) := ⟨sb, mb, A, m, c, D, HX.out⟩
    have hsz := hf.size
    exact ⟨hpd.below hb2, hf.trans' (Frm.of_below hb2), g, rfl, by omega, by rw [hs.out]; exact hrow2⟩
end

section
open Go.RowKit

theorem still_want {P : Program} {ops : Array Oper} {w : World} {Q : Act → Prop} {a : Act} {o : Oper} {rest : List Oper} (hw : Region.wanted o (yielded ops a.tmps) = true)
    (h : ∀ K : Act → Prop, (∀ a, wpStill P ops w Q rest a → K a) → o.still P a w K) : wpStill P ops w Q (o :: rest) a := by
  unfold wpStill
  rw [if_pos hw]
  exact h _ (fun _ h => h)
theorem still_skip {P : Program} {ops : Array Oper} {w : World} {Q : Act → Prop} {a : Act} {o : Oper} {rest : List Oper} (hw : Region.wanted o (yielded ops a.tmps) = false)
    (h : ∀ K : Act → Prop, (∀ a, wpStill P ops w Q rest a → K a) → K (a.put o.dst undef)) : wpStill P ops w Q (o :: rest) a := by
  unfold wpStill
  rw [if_neg (by rw [hw]; decide)]
  exact h _ (fun _ h => h)
/-- The operation's own run, as it is written. -/
theorem still_run {P : Program} {w : World} {o : Oper} {a : Act} {K : Act → Prop} {v : Value} (hr : (execOp a.eval o).run P w = .ok (.value v) w) (h : K (a.put o.dst v)) : o.still P a w K := by
  unfold Oper.still
  rw [hr, Oper.stillUpon_value]
  exact h

/-- One operation of a region in any order that gives a value in every world: taken at once, the frame laid anew. -/
theorem any_take {P : Program} {md : Region.Mode} {ops : Array Oper} {Q : Exit → Act → World → Prop} {i : Nat} {oi : Oper} {v : Value} {fuel : Nat} {listed : Array Bool} {a : Act} {w : World} (hi : ops[i]? = some oi)
    (hs : Region.noSelect ops = true) (hf : Region.free md ops listed i = true) (hr : (Region.ready md ops listed).contains i = true)
    (hQ : ∀ c a w, Q (.panic c) (a.put oi.dst v) w → Q (.panic c) a w) (hw : Region.wanted oi (yielded ops a.tmps) = true) (hrun : ∀ w, (execOp a.eval oi).run P w = .ok (.value v) w)
    (h : ∀ K : Act → World → Prop, (∀ a w, wpAny P md ops Q fuel (listed.setIfInBounds i true) a w → K a w) → K (a.put oi.dst v) w) : wpAny P md ops Q (fuel + 1) listed a w :=
  wpAny_take hi hs hf hr hQ (Or.inl ⟨hw, hrun⟩) (h _ (fun _ _ h => h))
theorem any_skip {P : Program} {md : Region.Mode} {ops : Array Oper} {Q : Exit → Act → World → Prop} {i : Nat} {oi : Oper} {fuel : Nat} {listed : Array Bool} {a : Act} {w : World} (hi : ops[i]? = some oi)
    (hs : Region.noSelect ops = true) (hf : Region.free md ops listed i = true) (hr : (Region.ready md ops listed).contains i = true)
    (hQ : ∀ c a w, Q (.panic c) (a.put oi.dst undef) w → Q (.panic c) a w) (hw : Region.wanted oi (yielded ops a.tmps) = false)
    (h : ∀ K : Act → World → Prop, (∀ a w, wpAny P md ops Q fuel (listed.setIfInBounds i true) a w → K a w) → K (a.put oi.dst undef) w) : wpAny P md ops Q (fuel + 1) listed a w :=
  wpAny_take hi hs hf hr hQ (Or.inr ⟨hw, rfl⟩) (h _ (fun _ _ h => h))
end

section
open Go.RowKit

def dirtyZ (n : Nat) (ca : Nat → Option (List UInt8)) : List Int := (dirty n ca).map fun (i : Nat) => (i : Int)
theorem dirty_nodup (n : Nat) (ca : Nat → Option (List UInt8)) : (dirtyZ n ca).Nodup := by
  unfold dirtyZ dirty
  refine List.pairwise_map.2 (List.Pairwise.filter _ ?_)
  exact List.nodup_range.imp fun h e => h (by omega)
theorem mem_dirtyZ {n : Nat} {S : Dsk} (h : S.Ok n) (x : Int) : x ∈ dirtyZ n S.ca ↔ ∃ i : Nat, x = i ∧ (S.ca i).isSome := by
  unfold dirtyZ dirty
  rw [List.mem_map]
  constructor
  · rintro ⟨i, hi, rfl⟩
    exact ⟨i, rfl, (List.mem_filter.1 hi).2⟩
  · rintro ⟨i, rfl, hi⟩
    refine ⟨i, List.mem_filter.2 ⟨List.mem_range.2 ?_, hi⟩, rfl⟩
    cases hc : S.ca i with
    | none => rw [hc] at hi; cases hi
    | some xs => exact (h.ca i xs hc).1
theorem keys_perm {w : World} {n nn mb : Nat} {S : Dsk} {D : DataW Value} (hok : S.Ok n) (hown : w.ownsMap Try.prog 3 heldR mb nn D) (hh : ∀ x : Int, Maps.has D (.int .i64 x) = true ↔ ∃ i : Nat, x = i ∧ (S.ca i).isSome) : (dirtyZ n S.ca).Perm (intKeys D) := by
  obtain ⟨es, hD, hpw, _⟩ := hown.entries kdInt
  obtain ⟨es', hD', hko⟩ := hown.keysOf
  obtain rfl : es = es' := by rw [hD] at hD'; simpa using hD'
  subst hD
  refine perm_intKeys hpw (fun p hp => by obtain ⟨v, hv⟩ := hko p hp; obtain ⟨x, _, hx, _⟩ := Maps.keyOf_i64 tyInt hv; exact ⟨x, hx⟩) (dirty_nodup n S.ca) fun x => ?_
  rw [mem_dirtyZ hok, hh]
theorem size_intKeys {H : Type} {D : DataW H} (h : Maps.IsMap D) : (intKeys D).length = Maps.size D := by
  obtain ⟨es, rfl⟩ := h
  simp [intKeys, Maps.size]
theorem keys_size {w : World} {n nn mb : Nat} {S : Dsk} {D : DataW Value} (hok : S.Ok n) (hown : w.ownsMap Try.prog 3 heldR mb nn D) (hh : ∀ x : Int, Maps.has D (.int .i64 x) = true ↔ ∃ i : Nat, x = i ∧ (S.ca i).isSome) : Maps.size D ≤ 4096 := by
  have h1 := (keys_perm hok hown hh).length_eq
  rw [size_intKeys hown.isMap] at h1
  have h2 : (dirtyZ n S.ca).length ≤ n := by
    unfold dirtyZ dirty
    rw [List.length_map]
    have := List.length_filter_le (fun i => (S.ca i).isSome) (List.range n)
    simpa using this
  have := hok.n4
  omega

theorem put_run {w w2 : World} {F : Nat → Prop} {a n : Nat} {S : Dsk} {sb mb m c : Nat} {A : Option Addr} {D : DataW Value} (h : PDx w F a n S sb mb A m c D) (hb : Below w.heap.size w w2) {g : Nat} (hg0 : w.heap.size ≤ g) {xs : List UInt8}
    (hrow : w2.heap[g]? = some (.cells (xs.map bv).toArray 5 (0, 0))) {i : Nat} (hi : i < n) (hx : xs.length = 64) :
    ∃ w3, (Instr.mapUpdate 96 (.map (some mb)) (.int .i64 i) (.slice (some ⟨g, 0, none⟩) 64 64)).run Try.prog w2 = .ok () w3 ∧ PD w3 (fun k => F k ∨ newF w w3 k) a n (S.put i xs) ∧ Frm F w w3 := by
  have h4 := h.ok.n4
  have hown2 := maps_frm h.map (Frm.of_below (F := fun _ => False) hb) fun h => h
  obtain ⟨w3, hrun, hown3, ht⟩ := hown2.store (val := .slice (some ⟨g, 0, none⟩) 64 64) kdInt tyMap (by unfold maxLen; omega) (keyInt (x := (i : Int)) (by omega) (by omega)) rfl
  have hg := ht.grown
  have hmb := h.lt mb h.fm
  have hsz := hb.size
  have hsz3 := hg.size
  have hk : ∀ (b : Nat) (o : Obj), b ≠ mb → w2.heap[b]? = some o → w3.heap[b]? = some o := fun b o hne ho => (hg.block b (lt_of_some ho) fun e => by injection e with e; exact hne e).trans ho
  have hmap2 : ∃ es cl, w2.heap[mb]? = some (.map es cl) := by obtain ⟨es, cl, e, _⟩ := hown2; exact ⟨es, cl, e⟩
  obtain ⟨es, cl, hmo⟩ := hmap2
  have hkc : ∀ (b : Nat) (cs : Array Value) (t : TypeId) (f : Nat × Nat), w2.heap[b]? = some (.cells cs t f) → w3.heap[b]? = some (.cells cs t f) := fun b cs t f ho => hk b _ (by rintro rfl; rw [hmo] at ho; cases ho) ho
  have hkc1 : ∀ (b : Nat) (cs : Array Value) (t : TypeId) (f : Nat × Nat), w.heap[b]? = some (.cells cs t f) → w3.heap[b]? = some (.cells cs t f) := fun b cs t f ho => hkc b cs t f ((hb.block b (lt_of_some ho)).trans ho)
  have hhas : ∀ x : Int, Maps.has (D.put (.int .i64 i) (.held (.slice (some ⟨g, 0, none⟩) 64 64))) (.int .i64 x) = true ↔ ∃ j : Nat, x = j ∧ ((S.put i xs).ca j).isSome := by
    intro x
    by_cases hxi : x = i
    · subst hxi
      rw [Maps.has_put_same h.map.isMap (show WideAt.IsKeyLit (.int .i64 (i : Int)) from trivial)]
      exact ⟨fun _ => ⟨i, rfl, by simp [Dsk.put, upd_same]⟩, fun _ => rfl⟩
    · rw [Maps.has_put_other (by intro e; injection e with _ e; exact hxi e), h.has]
      constructor
      · rintro ⟨j, rfl, hj⟩
        exact ⟨j, rfl, by simp only [Dsk.put]; rw [upd_other _ _ (by intro e; subst e; exact hxi rfl)]; exact hj⟩
      · rintro ⟨j, rfl, hj⟩
        refine ⟨j, rfl, ?_⟩
        simp only [Dsk.put] at hj
        rwa [upd_other _ _ (by intro e; subst e; exact hxi rfl)] at hj
  have hok' := h.ok.put hi hx
  refine ⟨w3, hrun, ⟨sb, mb, A, m, c, _, hok', hkc1 _ _ _ _ h.cells, hkc1 _ _ _ _ h.row, maps_tight hown3 _ (keys_size hok' hown3 hhas), hhas, ?_, ⟨h.flt.1, fun h0 => ?_⟩, h.m64, .inl h.fa, .inl h.fs, .inl h.fm, ?_⟩, ?_⟩
  · intro j ys hj
    by_cases hji : j = i
    · subst hji
      simp only [Dsk.put, upd_same, Option.some.injEq] at hj
      subst hj
      have hlt := lt_of_some hrow
      have hsb := h.lt sb h.fs
      exact ⟨g, fun zd => Maps.atKey_put_same h.map.isMap (show WideAt.IsKeyLit (.int .i64 (j : Int)) from trivial) _ _, .inr ⟨hg0, by omega⟩, by omega, hkc _ _ _ _ hrow⟩
    · simp only [Dsk.put, upd_other _ _ hji] at hj
      obtain ⟨g', h1, h2, h3, h4'⟩ := h.val j ys hj
      exact ⟨g', fun zd => (Maps.atKey_put_other (by intro e; injection e with _ e; omega) _ _).trans (h1 zd), .inl h2, h3, hkc1 _ _ _ _ h4'⟩
  · obtain ⟨b, cur, e, hFb, hc, r⟩ := h.flt.2 h0
    exact ⟨b, cur, e, .inl hFb, hkc1 _ _ _ _ hc, r⟩
  · rintro k (hk' | hk')
    · have := h.lt k hk'; omega
    · exact hk'.2
  · exact (Frm.of_below hb).trans (Frm.of_grown (F := fun b => b = mb) hg fun b e => (Option.some.inj e).symm) fun b e => .inl (e ▸ h.fm)
end

section
open Go.RowKit

set_option maxHeartbeats 800000 in
theorem write_err {w : World} {F : Nat → Prop} {a n : Nat} {S : Dsk} (h : PD w F a n S) (i : Int) (A : Option Addr) (len cap : Nat) (he : S.err (inR n i && decide (len = 64)) ≠ 0) :
    Calls Try.prog 24 #[.pointer (some ⟨a, 0, none⟩), .int .i64 i, .slice A len cap] w fun e w' => e = .returned (.int .i64 (S.err (inR n i && decide (len = 64)))) ∧ PD w' F a n (S.begun (inR n i && decide (len = 64))) ∧ Frm F w w' := by
  have hc := contains_any h i
  have hb := begin_err h _ he
  have he' : (S.err (inR n i && decide (len = 64)) == 0) = false := by simpa using he
  clear he
  have hlen : ((len : Int) == 64) = decide (len = 64) := by by_cases hl : len = 64 <;> simp [hl] ; omega
  generalize decide (len = 64) = q at *
  cases hin : inR n i with
  | true =>
    rw [hin] at hc hb he'
    rw [Bool.true_and] at hb he'
    rw [Bool.true_and]
    clear hin
    generalize S.err q = er at *
    go_enter Try.func24, Try.ntmps24
    go_wp2_with (first
      | (go_at_call 70; refine hc.mono ?_; rintro e w' ⟨rfl, rfl⟩)
      | (go_at_call 69; refine hb.mono ?_; rintro e w1 ⟨rfl, hpd, hf⟩))
    go_ret
    exact ⟨rfl, hpd, hf⟩
  | false =>
    rw [hin] at hc hb he'
    rw [Bool.false_and] at hb he'
    rw [Bool.false_and]
    clear hin
    generalize S.err false = er at *
    go_enter Try.func24, Try.ntmps24
    go_wp2_with (first
      | (go_at_call 70; refine hc.mono ?_; rintro e w' ⟨rfl, rfl⟩)
      | (go_at_call 69; refine hb.mono ?_; rintro e w1 ⟨rfl, hpd, hf⟩))
    go_ret
    exact ⟨rfl, hpd, hf⟩

theorem Frm.drew {F : Nat → Prop} {w w1 : World} (h : Frm F w w1) : Frm F w w1.drew := h.trans' (Frm.of_below ((Below.refl _ _).drew))
theorem PD.drew {w : World} {F : Nat → Prop} {a n : Nat} {S : Dsk} (h : PD w F a n S) : PD w.drew F a n S := h.below ((Below.refl _ _).drew)

theorem write_end {w v w3 : World} {F : Nat → Prop} {a n : Nat} {S : Dsk} (hf : Frm F w v) (h : PD w3 (fun k => F k ∨ newF v w3 k) a n S) : PD w3 (fun k => F k ∨ newF w w3 k) a n S := by
  have := hf.size
  refine h.more ?_ ?_
  · rintro b (hb | hb)
    · exact .inl hb
    · exact .inr ⟨by have := hb.1; omega, hb.2⟩
  · rintro b (hb | hb)
    · exact h.lt b (.inl hb)
    · exact hb.2
theorem write_end2 {w v w3 w4 : World} {F G : Nat → Prop} {a n : Nat} {S : Dsk} (hf : Frm F w v) (hf4 : Frm G w3 w4) (h : PD w4 (fun k => F k ∨ newF v w3 k) a n S) : PD w4 (fun k => F k ∨ newF w w4 k) a n S := by
  have := hf.size
  have := hf4.size
  refine h.more ?_ ?_
  · rintro b (hb | hb)
    · exact .inl hb
    · exact .inr ⟨by have := hb.1; omega, by have := hb.2; omega⟩
  · rintro b (hb | hb)
    · exact h.lt b (.inl hb)
    · exact hb.2

set_option maxRecDepth 20000 in
set_option maxHeartbeats 1600000 in
theorem write_fine {w : World} {F : Nat → Prop} {a n : Nat} {S : Dsk} (h : PD w F a n S) (i : Nat) (hi : i < n) (A : Option Addr) (cap : Nat) (xs : List UInt8) (hA : HasF F w A 64 (xs.map bv)) (he : S.err true = 0) (p : Bool) (hp : S.pow true = p) :
    Calls Try.prog 24 #[.pointer (some ⟨a, 0, none⟩), .int .i64 i, .slice A 64 cap] w fun e w' => e = .returned (.int .i64 (if p then 10 else 0)) ∧ PD w' (fun k => F k ∨ newF w w' k) a n ((S.done true).put i xs) ∧ Frm F w w' := by
  have hin : inR n (i : Int) = true := by simp [inR, hi]
  have hc := contains_any h i
  rw [hin] at hc
  have hb := begin_fine h true he
  rw [hp] at hb
  have hdone : S.done true = if p then (S.begun true).cut else S.begun true := by simp [Dsk.done, he, hp]
  rw [hdone]
  have hH := Lib.hid hi
  have hx64 : Hid (xs.length = 64) := by show _ = _; simpa using hA.1
  have HAH := Lib.hid hA
  clear he hp hin hi hdone hA
  go_enter Try.func24, Try.ntmps24
  go_wp2_with (first
    | (go_at_call 70; refine hc.mono ?_; rintro e w' ⟨rfl, rfl⟩)
    | (go_at_call 69; refine hb.mono ?_; rintro e w1 ⟨rfl, hpd, hf⟩; obtain ⟨sb, mb, A', m, c, D, hx⟩ := hpd.drew; have c1 := hx.c1; have lt1 := hx.lt a hx.fa; have HX := Lib.hid hx; have HF1 := Lib.hid hf.drew; clear hx hpd hf; have hA1 := HAH.out.keep HF1.out (G := F) (fun _ h => .inl h)))
  refine wp_region_any (by kernel_rfl) ?_
  change wpAny _ _ _ _ _ _ _ (World.drew _)
  generalize World.drew w1 = v1 at *
  refine any_take (i := 0) (v := ?_) rfl (by kernel_rfl) (by kernel_rfl) (by kernel_rfl) (fun _ _ _ h => h) (by exact rfl) (by intro w; go_simp; try with_reducible rfl) (fun K hK => ?_); go_simp; refine hK _ _ ?_; clear hK K
  refine any_take (i := 1) (v := ?_) rfl (by kernel_rfl) (by kernel_rfl) (by kernel_rfl) (fun _ _ _ h => h) (by exact rfl) (by intro w; go_simp; try with_reducible rfl) (fun K hK => ?_); go_simp; refine hK _ _ ?_; clear hK K
  refine any_take (i := 2) (v := ?_) rfl (by kernel_rfl) (by kernel_rfl) (by kernel_rfl) (fun _ _ _ h => h) (by exact rfl) (by intro w; go_simp; try with_reducible rfl) (fun K hK => ?_); go_simp; refine hK _ _ ?_; clear hK K
  refine any_take (i := 4) (v := ?_) rfl (by kernel_rfl) (by kernel_rfl) (by kernel_rfl) (fun _ _ _ h => h) (by exact rfl) (by intro w; go_simp; try with_reducible rfl) (fun K hK => ?_); go_simp; refine hK _ _ ?_; clear hK K
  refine any_take (i := 5) (v := ?_) rfl (by kernel_rfl) (by kernel_rfl) (by kernel_rfl) (fun _ _ _ h => h) (by exact rfl) (by intro w; go_simp; try with_reducible rfl) (fun K hK => ?_); go_simp; refine hK _ _ ?_; clear hK K
  refine wpAny_ready (rs := [3, 6]) (by kernel_rfl) (by simp) ?_
  refine AllReady.cons rfl (fun K hK => ?_) (AllReady.cons rfl (fun K hK => ?_) AllReady.nil)
  · go_simp
    refine hK _ _ ?_
    clear hK K
    refine wpAny_ready (rs := [6]) (by kernel_rfl) (by simp) ?_
    refine AllReady.cons rfl (fun K hK => ?_) AllReady.nil
    go_simp
    refine (copied_any A 64 cap v1.heap.size xs v1 hA1.has (Nat.le_refl _) (by omega)).mono ?_
    rintro e w2 ⟨g, rfl, hg0, hrow, hb2⟩
    obtain ⟨w3, hrun, hpd3, hf3⟩ := put_run HX.out hb2 hg0 hrow hH.out hx64.out
    refine hK _ _ ?_
    clear hK K
    refine wpAny_ready (rs := [7]) (by kernel_rfl) (by simp) ?_
    refine AllReady.cons rfl (fun K hK => ?_) AllReady.nil
    go_simp
    refine hK _ _ ?_
    clear hK K
    cases p with
    | false =>
      refine wpAny_done (by kernel_rfl) ?_ _
      go_wp2
      go_ret
      exact ⟨rfl, write_end HF1.out hpd3, HF1.out.trans' hf3⟩
    | true =>
      refine wpAny_done (by kernel_rfl) ?_ _
      go_wp2_with (go_at_call 31; refine (cut_any hpd3).mono ?_; rintro e w4 ⟨rfl, hpd4, hf4⟩)
      go_ret
      exact ⟨rfl, write_end2 HF1.out hf4 hpd4, (HF1.out.trans' hf3).trans hf4 fun b hb => hb.elim .inl fun hb => .inr (by have := HF1.out.size; have := hb.1; omega)⟩
  · go_simp
    refine (copied_any A 64 cap v1.heap.size xs v1 hA1.has (Nat.le_refl _) (by omega)).mono ?_
    rintro e w2 ⟨g, rfl, hg0, hrow, hb2⟩
    obtain ⟨w3, hrun, hpd3, hf3⟩ := put_run HX.out hb2 hg0 hrow hH.out hx64.out
    have c2 := (hb2.cell (p := ⟨a, 1, none⟩) lt1).trans c1
    refine hK _ _ ?_
    clear hK K
    refine wpAny_ready (rs := [3]) (by kernel_rfl) (by simp) ?_
    refine AllReady.cons rfl (fun K hK => ?_) AllReady.nil
    go_simp
    refine hK _ _ ?_
    clear hK K
    refine wpAny_ready (rs := [7]) (by kernel_rfl) (by simp) ?_
    refine AllReady.cons rfl (fun K hK => ?_) AllReady.nil
    go_simp
    refine hK _ _ ?_
    clear hK K
    cases p with
    | false =>
      refine wpAny_done (by kernel_rfl) ?_ _
      go_wp2
      go_ret
      exact ⟨rfl, write_end HF1.out hpd3, HF1.out.trans' hf3⟩
    | true =>
      refine wpAny_done (by kernel_rfl) ?_ _
      go_wp2_with (go_at_call 31; refine (cut_any hpd3).mono ?_; rintro e w4 ⟨rfl, hpd4, hf4⟩)
      go_ret
      exact ⟨rfl, write_end2 HF1.out hf4 hpd4, (HF1.out.trans' hf3).trans hf4 fun b hb => hb.elim .inl fun hb => .inr (by have := HF1.out.size; have := hb.1; omega)⟩
end

section
open Go.RowKit Go.MapKept Go.ChangeMaps Go.WideShapes

theorem maps_clear {H : Type} {P : Program} {w : World} {t k e : TypeId} {R : Value → Option (DataW H × List MemPlace)} {b n : Nat} {D : DataW H} (h : w.ownsMap P k R b n D) (ht : P.underlying t = some (.map k e)) (ty : TypeId) :
    ∃ w', (Builtin.clear_ #[t] ty #[.map (some b)]).run P w = .ok (.tuple #[]) w' ∧ w'.ownsMap P k R b 0 (.map []) ∧ w.mapTurned w' b := by
  obtain ⟨es, clock, hb, F, hs, rfl⟩ := h
  refine ⟨setBlock w b (.map #[] clock), ?_, ⟨#[], clock, heap_setBlock_same hb _, ⟨by simp, ?_, by simp⟩, Nat.le_refl _, rfl⟩, ⟨es, clock, #[], clock, hb, rfl⟩⟩
  · simp [Builtin.clear_, run_underlying ht, MapKept.run_getObj_map hb, MapKept.run_setObj_map _ hb, Result.andThen, setBlock]
  · exact (MapKept.stamped_iff _ _).2 ⟨by simp, by simp, by simp⟩

section
variable {P : Program} {w : World} {ops : Array Oper} {rest : List Oper} {o : Oper} {a : Act} {Q : Exit → Act → World → Prop}
theorem wpList_clear_map {H : Type} (hg : o.guard = none) (m : Operand) (t : TypeId) (hop : o.op = Op.call { callee := Callee.builtin Builtin.clear, args := #[m], argTypes := #[t] }) (k e : TypeId) (ht : P.underlying t = some (.map k e))
    (R : Value → Option (DataW H × List MemPlace)) (b n : Nat) (D : DataW H) (hm : a.eval m = .map (some b)) (hown : w.ownsMap P k R b n D)
    (hK : ∀ w', w'.ownsMap P k R b 0 (.map []) → w.mapTurned w' b → wpList P ops Q rest (a.put o.dst (.tuple #[])) w') : wpList P ops Q (o :: rest) a w := by
  refine wpList_plain hg fun K' hK' => ?_
  obtain ⟨w', hrun, r1, r2⟩ := maps_clear hown ht o.type
  unfold Oper.wp
  simp [execOp, hop, resolve, invoke, builtin, hm, hrun, Result.andThen]
  exact hK' _ _ (hK w' r1 r2)

theorem wpList_copy_frm (hgd : o.guard = none) (d s : Operand) (dT sT : TypeId)
    (ho : o.op = .call { callee := .builtin .copy, args := #[d, s], argTypes := #[dT, sT] }) (elem : TypeId) (hu : P.underlying dT = some (.slice elem)) (hsz : (P.info? elem).map (·.size) = some 1)
    (sp : Option Addr) (dLen dCap sLen sCap : Nat) (g off : Nat) (hd : a.eval d = .slice (some ⟨g, off, none⟩) dLen dCap) (hs : a.eval s = .slice sp sLen sCap)
    (cur : List Value) (t : TypeId) (hg : w.heap[g]? = some (.cells cur.toArray t (0, 0))) (cs : List Value) (hn : cs.length = Nat.min sLen dLen)
    (hpos : 0 < cs.length → ∃ ad, sp = some ad ∧ ∀ j v, cs[j]? = some v → w.cell? (ad.add j) = some v)
    (hfit : off + cs.length ≤ cur.length) (h1 : ∀ v ∈ cs, v.oneCell' = true)
    (h : ∀ w', Hid (w'.heap[g]? = some (.cells (splice cur off cs).toArray t (0, 0))) → Frm (fun b => b = g) w w' → wpList P ops Q rest (a.put o.dst (goInt cs.length)) w') :
    wpList P ops Q (o :: rest) a w := by
  by_cases h0 : cs.length = 0
  · obtain rfl : cs = [] := List.eq_nil_of_length_eq_zero h0
    refine wpList_copy_nothing hgd d s dT sT ho elem hu hsz _ sp dLen dCap sLen sCap hd hs (by simpa using hn.symm) ?_
    exact h w (show _ = _ by simpa [splice] using hg) (Frm.refl _ _)
  · obtain ⟨ad, rfl, hsrc⟩ := hpos (by omega)
    refine wpList_copy_own hgd d s dT sT ho elem hu hsz g off dLen dCap ad sLen sCap hd hs cur.toArray t hg cs hn hsrc (by simpa using hfit) h1 ?_
    exact h _ (show _ = _ by simpa [splice] using setRow_heap w g _ _ t _ hg) ⟨rfl, rfl, rfl, by simp [World.setRow], fun k _ hk => setRow_other w g k _ hk⟩
end
end

section
open Go.RowKit

theorem PDx.keep {w w' : World} {F G : Nat → Prop} {a n : Nat} {S : Dsk} {sb mb m c : Nat} {A : Option Addr} {D : DataW Value} (h : PDx w F a n S sb mb A m c D) (hf : Frm G w w') (hG : ∀ b, G b → F b → False) : PDx w' F a n S sb mb A m c D := by
  have hk : ∀ b o, F b → w.heap[b]? = some o → w'.heap[b]? = some o := fun b o hb ho => hf.obj ho fun hg => hG b hg hb
  exact ⟨h.ok, hk _ _ h.fa h.cells, hk _ _ h.fs h.row, maps_frm h.map hf fun hg => hG _ hg h.fm, h.has, fun i xs hi => by
    obtain ⟨g, h1, h2, h3, h4⟩ := h.val i xs hi
    exact ⟨g, h1, h2, h3, hk _ _ h2 h4⟩, h.flt.keep hk, h.m64, h.fa, h.fs, h.fm, fun k hk' => by have := h.lt k hk'; have := hf.size; omega⟩
/-- Other stored contents. -/
def Dsk.withSt (S : Dsk) (st : Nat → List UInt8) : Dsk := { S with st := st }
theorem PDx.setSt {w w' : World} {F : Nat → Prop} {a n : Nat} {S : Dsk} {sb mb m c : Nat} {A : Option Addr} {D : DataW Value} (h : PDx w F a n S sb mb A m c D) (hf : Frm (fun b => b = sb) w w') (st : Nat → List UInt8)
    (hs : ∀ i, i < n → (st i).length = 64) (hrow : w'.heap[sb]? = some (.cells ((flat n st).map bv).toArray 5 (0, 0))) : PDx w' F a n (S.withSt st) sb mb A m c D := by
  have hne : ∀ (b : Nat) (o : Obj), w.heap[b]? = some o → b ≠ sb → w'.heap[b]? = some o := fun b o ho hn => hf.obj ho hn
  have hty : ∀ (b : Nat) (cs : Array Value) (t : TypeId) (f : Nat × Nat), t ≠ 5 → w.heap[b]? = some (.cells cs t f) → w'.heap[b]? = some (.cells cs t f) := fun b cs t f ht ho => hne b _ ho (by
    rintro rfl
    rw [h.row] at ho
    injection ho with ho
    injection ho with _ ho _
    exact ht ho.symm)
  refine ⟨⟨h.ok.n1, h.ok.n4, hs, h.ok.ca, h.ok.c0, h.ok.c1⟩, hty _ _ _ _ (by decide) h.cells, hrow, maps_frm h.map hf ?_, h.has, fun i xs hi => ?_, ⟨h.flt.1, fun h0 => ?_⟩, h.m64, h.fa, h.fs, h.fm, fun k hk => by have := h.lt k hk; have := hf.size; omega⟩
  · rintro rfl
    obtain ⟨es, cl, e, _⟩ := h.map
    rw [h.row] at e
    cases e
  · obtain ⟨g, h1, h2, h3, h4⟩ := h.val i xs hi
    exact ⟨g, h1, h2, h3, hne _ _ h4 h3⟩
  · obtain ⟨b, cur, e, hb, hc, r⟩ := h.flt.2 h0
    exact ⟨b, cur, e, hb, hty _ _ _ _ (by decide) hc, r⟩
/-- The stored contents spelled anew. -/
theorem PDx.congr {w : World} {F : Nat → Prop} {a n : Nat} {S : Dsk} {sb mb m c : Nat} {A : Option Addr} {D : DataW Value} (h : PDx w F a n S sb mb A m c D) (st : Nat → List UInt8) (hs : ∀ i, i < n → S.st i = st i) : PDx w F a n (S.withSt st) sb mb A m c D := by
  refine ⟨⟨h.ok.n1, h.ok.n4, fun i hi => by show (st i).length = 64; rw [← hs i hi]; exact h.ok.st i hi, h.ok.ca, h.ok.c0, h.ok.c1⟩, h.cells, ?_, h.map, h.has, h.val, h.flt, h.m64, h.fa, h.fs, h.fm, h.lt⟩
  show w.heap[sb]? = some (.cells ((flat n st).map bv).toArray 5 (0, 0))
  rw [← flat_congr hs]
  exact h.row
theorem PD.congr {w : World} {F : Nat → Prop} {a n : Nat} {S : Dsk} (h : PD w F a n S) (st : Nat → List UInt8) (hs : ∀ i, i < n → S.st i = st i) : PD w F a n (S.withSt st) := by
  obtain ⟨sb, mb, A, m, c, D, h⟩ := h
  exact ⟨sb, mb, A, m, c, D, h.congr st hs⟩
/-- The cache was emptied. -/
theorem PDx.cleared {w w' : World} {F : Nat → Prop} {a n : Nat} {S : Dsk} {sb mb m c : Nat} {A : Option Addr} {D : DataW Value} (h : PDx w F a n S sb mb A m c D) (hown : w'.ownsMap Try.prog 3 heldR mb 0 (.map [])) (ht : w.mapTurned w' mb) :
    PDx w' F a n { S with ca := fun _ => none } sb mb A m c (.map []) ∧ Frm (fun b => b = mb) w w' := by
  have hf : Frm (fun b => b = mb) w w' := Frm.of_grown ht.grown fun b e => (Option.some.inj e).symm
  have hk : ∀ (b : Nat) (cs : Array Value) (t : TypeId) (f : Nat × Nat), w.heap[b]? = some (.cells cs t f) → w'.heap[b]? = some (.cells cs t f) := fun b cs t f ho => hf.obj ho (by
    rintro rfl
    obtain ⟨es, cl, e, _⟩ := h.map
    rw [ho] at e
    cases e)
  refine ⟨⟨⟨h.ok.n1, h.ok.n4, h.ok.st, fun _ _ e => (by cases e), h.ok.c0, h.ok.c1⟩, hk _ _ _ _ h.cells, hk _ _ _ _ h.row, hown.mono (Nat.zero_le _), fun x => ⟨fun e => by simp [Maps.has] at e, fun ⟨_, _, e⟩ => by cases e⟩, fun _ _ e => (by cases e), ⟨h.flt.1, fun h0 => ?_⟩, h.m64, h.fa, h.fs, h.fm, fun k hk => by have := h.lt k hk; have := hf.size; omega⟩, hf⟩
  obtain ⟨b, cur, e, hb, hc, r⟩ := h.flt.2 h0
  exact ⟨b, cur, e, hb, hk _ _ _ _ hc, r⟩

/-- In the middle of a Sync: what is still to come is stored as it was. -/
def mixSt (S : Dsk) (left : Lit → Bool) : Nat → List UInt8 := fun i => if left (.int .i64 (i : Int)) then S.st i else S.sec i
theorem mix_step (S : Dsk) (left : Lit → Bool) (i : Nat) (xs : List UInt8) (hi : S.ca i = some xs) (j : Nat) : upd (mixSt S left) i xs j = mixSt S (fun z => left z && !z.sameKey (.int .i64 (i : Int))) j := by
  by_cases hji : j = i
  · subst hji
    simp [upd_same, mixSt, Lit.sameKey, Dsk.sec, hi]
  · rw [upd_other _ _ hji]
    have : (Lit.int .i64 (j : Int)).sameKey (.int .i64 (i : Int)) = false := by
      simp [Lit.sameKey]; omega
    simp [mixSt, this]

/-- The step of a range over the cache. -/
theorem wpList_next_disk {w : World} {ops : Array Oper} {rest : List Oper} {o : Oper} {a : Act} {Q : Exit → Act → World → Prop} (hg : o.guard = none) (it : Operand) (hop : o.op = Op.next it false) (mb r nn : Nat) (D : DataW Value) (left : Lit → Bool) (cnt : Nat)
    (hit : a.eval it = .pointer (some ⟨r, 0, none⟩)) (h : w.ranges Try.prog 3 heldR mb r nn D left cnt) (T : Nat → Nat → Prop)
    (hT : ∀ (x : Int) v, (∀ zd, D.atKey (.int .i64 x) zd = .held v) → ∃ i g : Nat, x = i ∧ v = .slice (some ⟨g, 0, none⟩) 64 64 ∧ T i g)
    (hDone : (∀ kl, left kl = false) → wpList Try.prog ops Q rest (a.put o.dst (.tuple #[.bool false])) w)
    (hMore : ∀ (i g : Nat) (w' : World) (cnt' : Nat), T i g → left (.int .i64 (i : Int)) = true → w'.ranges Try.prog 3 heldR mb r nn D (fun z => left z && !z.sameKey (.int .i64 (i : Int))) cnt' → cnt' < cnt → w.grownBy w' (some r) → w'.heap.size = w.heap.size →
      (Instr.entry (.pointer (some ⟨r, 0, none⟩))).run Try.prog w' = .ok (.tuple #[.int .i64 i, .slice (some ⟨g, 0, none⟩) 64 64]) w' → wpList Try.prog ops Q rest (a.put o.dst (.tuple #[.bool true, .int .i64 i, .slice (some ⟨g, 0, none⟩) 64 64])) w') :
    wpList Try.prog ops Q (o :: rest) a w := by
  refine wpList_next_ranges w hg it hop 3 kdInt heldR (Value.int .i64) id (fun key kl hk => by obtain ⟨x, rfl, _, _⟩ := Maps.keyOf_i64 tyInt hk; exact ⟨x, rfl⟩) (fun v y _ => ⟨v, rfl⟩) mb r nn D left cnt hit h (fun _ hl => hDone hl) ?_
  intro x v kl y w' cnt' hkey hlk hv hat hrg hlt hgr hsz hen
  obtain ⟨x', ex, rfl, _⟩ := Maps.keyOf_i64 tyInt hkey
  cases ex
  simp only [heldR, id, Option.some.injEq] at hv
  subst hv
  obtain ⟨i, g, rfl, rfl, hTi⟩ := hT x v hat
  exact hMore i g w' cnt' hTi hlk hrg hlt hgr hsz hen
end

end Go.Proofs.Ytbcfjkfkkklgbaa
