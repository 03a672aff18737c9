/-
  Directives by their names: plain, and as a map in memory.
-/
import Derived.Test.YtpopkeidpohdiaaDoorDvM
import Derived.Test.YtpopkeidpohdiaaDoorFrm
import Derived.Test.YtpopkeidpohdiaaDoorStP
namespace Go.Proofs.YtpopkeidpohdiaaDoor
open Go.RowKit

/-- The first directive of that name. -/
def byN (l : List Dv) (n : List UInt8) : Option Dv := l.find? fun d => decide (d.name = n)
theorem byN_nil (n : List UInt8) : byN [] n = none := rfl
theorem byN_snoc (l : List Dv) (d : Dv) (n : List UInt8) : byN (l ++ [d]) n = (byN l n).or (if d.name = n then some d else none) := by
  unfold byN
  rw [List.find?_append]
  congr 1
  by_cases h : d.name = n <;> simp [h]
theorem byN_name {l : List Dv} {n : List UInt8} {d : Dv} (h : byN l n = some d) : d.name = n ∧ d ∈ l := by
  unfold byN at h
  have h1 := List.find?_some h
  exact ⟨by simpa using h1, List.mem_of_find?_eq_some h⟩
theorem byN_none {l : List Dv} {n : List UInt8} (h : byN l n = none) : ∀ d ∈ l, d.name ≠ n := by
  unfold byN at h
  rw [List.find?_eq_none] at h
  intro d hd
  have := h d hd
  simpa using this
theorem dup_snoc (l : List Dv) (d : Dv) : dupL (l ++ [d]) = (dupL l || (byN l d.name).isSome) := by
  have key : ((l ++ [d]).map (·.name)).Nodup ↔ (l.map (·.name)).Nodup ∧ byN l d.name = none := by
    rw [List.map_append, List.map_singleton, List.nodup_append]
    constructor
    · rintro ⟨h1, _, h3⟩
      refine ⟨h1, ?_⟩
      cases hb : byN l d.name with
      | none => rfl
      | some e =>
        obtain ⟨hn, hm⟩ := byN_name hb
        exact absurd hn (h3 _ (List.mem_map_of_mem hm) _ (by simp))
    · rintro ⟨h1, h2⟩
      refine ⟨h1, by simp, ?_⟩
      intro a ha b hb
      obtain ⟨e, he, rfl⟩ := List.mem_map.1 ha
      simp at hb
      subst hb
      exact byN_none h2 e he
  have h0 : ∀ l : List Dv, dupL l = true ↔ ¬ (l.map (·.name)).Nodup := fun l => by unfold dupL; simp
  rw [Bool.eq_iff_iff, Bool.or_eq_true, h0, h0, key]
  cases hb : byN l d.name with
  | none => simp
  | some e => simp
theorem dup_take {l : List Dv} {k : Nat} (h : dupL (l.take k) = true) : dupL l = true := by
  unfold dupL at h ⊢
  simp only [Bool.not_eq_true', decide_eq_false_iff_not] at h ⊢
  intro hn
  exact h (hn.sublist ((List.take_sublist k l).map _))
theorem dup_at {l : List Dv} {k : Nat} (hk : k < l.length) (h : (byN (l.take k) l[k].name).isSome = true) : dupL l = true := by
  refine dup_take (k := k + 1) ?_
  rw [List.take_succ_eq_append_getElem hk, dup_snoc, h, Bool.or_true]
theorem dup_next {l : List Dv} {k : Nat} (hk : k < l.length) (h0 : dupL (l.take k) = false) (h : byN (l.take k) l[k].name = none) : dupL (l.take (k + 1)) = false := by
  rw [List.take_succ_eq_append_getElem hk, dup_snoc, h0, h]
  rfl
theorem any_by (n : List UInt8) (f : Dv → Bool) : ∀ l : List Dv, (l.map (·.name)).Nodup → l.any (fun d => decide (d.name = n) && f d) = (byN l n).any f
  | [], _ => rfl
  | d :: r, h => by
    rw [List.map_cons, List.nodup_cons] at h
    unfold byN
    rw [List.any_cons, List.find?_cons]
    by_cases hd : d.name = n
    · have hr : r.any (fun d => decide (d.name = n) && f d) = false := by
        rw [List.any_eq_false]
        intro e he
        have : ¬ e.name = n := fun x => h.1 (by rw [hd, ← x]; exact List.mem_map_of_mem he)
        simp [this]
      simp [hd, hr]
    · have ih := any_by n f r h.2
      unfold byN at ih
      simp [hd, ih]
theorem any_or (f g : Dv → Bool) : ∀ l : List Dv, l.any (fun d => f d || g d) = (l.any f || l.any g)
  | [] => rfl
  | d :: r => by
    rw [List.any_cons, List.any_cons, List.any_cons, any_or f g r]
    cases f d <;> cases g d <;> cases r.any f <;> rfl
theorem some_by (l : List Dv) (n : List UInt8) : l.any (fun d => decide (d.name = n)) = (byN l n).isSome := by
  unfold byN
  rw [List.isSome_find?]
/-- The policy by the two directives that are known. -/
theorem pol_by {l : List Dv} (h : dupL l = false) : polL l = if ((byN l nmA).any fun d => !digitsB (bs d.value)) || ((byN l nmI).any fun d => d.has) then (pv0, (6 : Int)) else (match byN l nmA with | some d => ((⟨perV (bs d.value), (byN l nmI).isSome⟩ : Pv), (0 : Int)) | none => (pv0, (18 : Int))) := by
  have hn : (l.map (·.name)).Nodup := by unfold dupL at h; simpa using h
  have e1 : l.any badD = (((byN l nmA).any fun d => !digitsB (bs d.value)) || ((byN l nmI).any fun d => d.has)) := by
    rw [← any_by nmA _ l hn, ← any_by nmI _ l hn, ← any_or]
    rfl
  have e2 : l.any isA = (byN l nmA).isSome := some_by l nmA
  have e3 : l.any isI = (byN l nmI).isSome := some_by l nmI
  rw [polL_eq, h, e1, e2, e3]
  cases hb : byN l nmA with
  | none => rfl
  | some d =>
    obtain ⟨h1, h2⟩ := byN_name hb
    rw [lastA_mem l 0 d hn h2 h1]
    rfl
theorem pol_dup {l : List Dv} (h : dupL l = true) : polL l = (pv0, 17) := by unfold polL; rw [if_pos h]

/-- No directive: what a map answers of a name that it doesn't hold. -/
def dvZ : Dv := ⟨[], [], false⟩
theorem pol_by2 {l : List Dv} (h : dupL l = false) : polL l = if (((byN l nmA).isSome && !digitsB (bs ((byN l nmA).getD dvZ).value)) || ((byN l nmI).getD dvZ).has) = true then (pv0, (6 : Int)) else if (byN l nmA).isSome = true then ((⟨perV (bs ((byN l nmA).getD dvZ).value), (byN l nmI).isSome⟩ : Pv), (0 : Int)) else (pv0, (18 : Int)) := by
  rw [pol_by h]
  cases byN l nmA with
  | none => cases byN l nmI <;> simp [dvZ]
  | some d => cases byN l nmI <;> simp [dvZ]

/-! ### the map -/
theorem tyMapDv : Tryd.prog.underlying 35 = some (.map 9 39) := by kernel_rfl
theorem kdStr : Maps.Keyed Tryd.prog 9 := Maps.string_keyed tyStr
theorem keyStr {s : ByteArray} (hs : s.size ≤ maxLen) : keyOf Tryd.prog 9 (.string s) = some (.string (ls s)) := by
  rw [WideMaps.keyOf_string_mk tyStr hs]
  rfl
/-- The map holds the directives of l by their names. -/
structure MapDv (w : World) (mb k : Nat) (D : DataW Value) (l : List Dv) : Prop where
  own : w.ownsMap Tryd.prog 9 heldR mb k D
  has : ∀ n : List UInt8, Maps.has D (.string n) = (byN l n).isSome
  at_ : ∀ (n : List UInt8) (d : Dv), byN l n = some d → ∀ z, D.atKey (.string n) z = .held (.agg d.cells)
theorem MapDv.made (w : World) : MapDv (w.alloc (.map #[] 0)) w.heap.size 0 (.map []) [] :=
  ⟨World.ownsMap_made w _ _ _, fun _ => rfl, fun _ _ h => by cases h⟩
theorem MapDv.kept {w w' : World} {mb k : Nat} {D : DataW Value} {l : List Dv} {row : Option Nat} (h : MapDv w mb k D l) (hg : w.grownBy w' row) (hne : some mb ≠ row) : MapDv w' mb k D l := ⟨h.own.kept hg hne, h.has, h.at_⟩
theorem MapDv.below {w w' : World} {mb k : Nat} {D : DataW Value} {l : List Dv} (h : MapDv w mb k D l) (hb : Below w.heap.size w w') : MapDv w' mb k D l := by
  have hlt := h.own.lt
  obtain ⟨es, clock, hh, r⟩ := h.own
  exact ⟨⟨es, clock, (hb.block mb hlt).trans hh, r⟩, h.has, h.at_⟩
theorem MapDv.put {w' : World} {mb k : Nat} {D : DataW Value} {l : List Dv} {d : Dv} (hI : Maps.IsMap D) (hh : ∀ n : List UInt8, Maps.has D (.string n) = (byN l n).isSome) (ha : ∀ (n : List UInt8) (e : Dv), byN l n = some e → ∀ z, D.atKey (.string n) z = .held (.agg e.cells))
    (hn : byN l d.name = none) (hown : w'.ownsMap Tryd.prog 9 heldR mb (k + 1) (D.put (.string d.name) (.held (.agg d.cells)))) : MapDv w' mb (k + 1) (D.put (.string d.name) (.held (.agg d.cells))) (l ++ [d]) := by
  refine ⟨hown, fun n => ?_, fun n e he z => ?_⟩
  · rw [byN_snoc]
    by_cases hx : d.name = n
    · subst hx
      rw [Maps.has_put_same hI (show WideAt.IsKeyLit (.string d.name) from trivial), hn]
      simp
    · rw [Maps.has_put_other (fun x => hx (by injection x with x; exact x.symm)), hh, if_neg hx]
      simp
  · rw [byN_snoc] at he
    by_cases hx : d.name = n
    · subst hx
      rw [hn, if_pos rfl] at he
      simp at he
      subst he
      rw [Maps.atKey_put_same hI (show WideAt.IsKeyLit (.string d.name) from trivial)]
    · rw [if_neg hx] at he
      simp at he
      rw [Maps.atKey_put_other (fun x => hx (by injection x with x; exact x.symm)), ha n e he]
section
variable {ops : Array Oper} {rest : List Oper} {o : Oper} {a : Act} {w : World} {Q : Exit → Act → World → Prop}
/-- v, ok := m[k], where it is there, and where it isn't. -/
theorem wpList_look_hit (hg : o.guard = none) (m x : Operand) (hop : o.op = Op.lookup 35 m x true) {mb k : Nat} {D : DataW Value} {l : List Dv} (hM : MapDv w mb k D l) (hm : a.eval m = .map (some mb))
    (s : ByteArray) (hx : a.eval x = .string s) (hs : s.size ≤ maxLen) (d : Dv) (hd : byN l (ls s) = some d)
    (hK : wpList Tryd.prog ops Q rest (a.put o.dst (.tuple #[.agg #[.string (bs d.name), .string (bs d.value), .bool d.has], .bool true])) w) : wpList Tryd.prog ops Q (o :: rest) a w := by
  refine wpList_lookup_own_ok _ hg m x _ hop _ _ kdStr tyMapDv heldR (zeroDv w) (.held (.agg dz)) [] rfl mb k D hm hM.own (.string s) _ hx (keyStr hs) ?_
  intro v ps hv
  rw [hM.at_ _ d hd] at hv
  simp only [heldR, Option.some.injEq, Prod.mk.injEq, DataW.held.injEq] at hv
  obtain ⟨rfl, _⟩ := hv
  rw [hM.has, hd]
  exact hK
theorem wpList_look_miss (hg : o.guard = none) (m x : Operand) (hop : o.op = Op.lookup 35 m x true) {mb k : Nat} {D : DataW Value} {l : List Dv} (hM : MapDv w mb k D l) (hm : a.eval m = .map (some mb))
    (s : ByteArray) (hx : a.eval x = .string s) (hs : s.size ≤ maxLen) (hd : byN l (ls s) = none)
    (hK : wpList Tryd.prog ops Q rest (a.put o.dst (.tuple #[.agg #[.string ⟨#[]⟩, .string ⟨#[]⟩, .bool false], .bool false])) w) : wpList Tryd.prog ops Q (o :: rest) a w := by
  refine wpList_lookup_own_ok _ hg m x _ hop _ _ kdStr tyMapDv heldR (zeroDv w) (.held (.agg dz)) [] rfl mb k D hm hM.own (.string s) _ hx (keyStr hs) ?_
  intro v ps hv
  have hf : Maps.has D (.string (ls s)) = false := by rw [hM.has, hd]; rfl
  rw [Maps.atKey_of_not_has hf] at hv
  simp only [heldR, Option.some.injEq, Prod.mk.injEq, DataW.held.injEq] at hv
  obtain ⟨rfl, _⟩ := hv
  rw [hf]
  exact hK
/-- v, ok := m[k]. -/
theorem wpList_look_any (hg : o.guard = none) (m x : Operand) (hop : o.op = Op.lookup 35 m x true) {mb k : Nat} {D : DataW Value} {l : List Dv} (hM : MapDv w mb k D l) (hm : a.eval m = .map (some mb))
    (s : ByteArray) (hx : a.eval x = .string s) (hs : s.size ≤ maxLen) (d : Dv) (hd : (byN l (ls s)).getD dvZ = d) (q : Bool) (hq : (byN l (ls s)).isSome = q)
    (hK : wpList Tryd.prog ops Q rest (a.put o.dst (.tuple #[.agg #[.string (bs d.name), .string (bs d.value), .bool d.has], .bool q])) w) : wpList Tryd.prog ops Q (o :: rest) a w := by
  cases hb : byN l (ls s) with
  | none =>
    rw [hb] at hd hq
    simp at hd hq
    subst hd hq
    exact wpList_look_miss hg m x hop hM hm s hx hs hb hK
  | some e =>
    rw [hb] at hd hq
    simp at hd hq
    subst hd hq
    exact wpList_look_hit hg m x hop hM hm s hx hs e hb hK
/-- m[k] = v of a name that is not there. -/
theorem wpList_put_dv (hg : o.guard = none) (m x v : Operand) (hop : o.op = Op.mapUpdate 35 m x v) {mb k : Nat} {D : DataW Value} {l : List Dv} (hM : MapDv w mb k D l) (hm : a.eval m = .map (some mb)) (hk : k < maxLen)
    (d : Dv) (hx : a.eval x = .string (bs d.name)) (hs : (bs d.name).size ≤ maxLen) (hv : a.eval v = .agg #[.string (bs d.name), .string (bs d.value), .bool d.has]) (hn : byN l d.name = none)
    (hK : ∀ w' D', MapDv w' mb (k + 1) D' (l ++ [d]) → w.grownBy w' (some mb) → wpList Tryd.prog ops Q rest (a.put o.dst undef) w') : wpList Tryd.prog ops Q (o :: rest) a w := by
  refine wpList_mapUpdate_own _ hg m x v _ hop _ _ kdStr tyMapDv heldR mb k D hm hM.own hk (.string (bs d.name)) (.agg #[.string (bs d.name), .string (bs d.value), .bool d.has]) (.string d.name) hx hv (by rw [keyStr hs, ls_bs]) (.held (.agg d.cells)) [] rfl ?_
  intro w' hown hgr
  exact hK w' _ (MapDv.put hM.own.isMap hM.has hM.at_ hn hown) hgr
end

end Go.Proofs.YtpopkeidpohdiaaDoor
