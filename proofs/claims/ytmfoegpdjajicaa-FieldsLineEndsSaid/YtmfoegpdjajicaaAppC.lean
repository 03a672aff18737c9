/-
  append(b, r...) where b is []byte(s) of a string: the row bears the mark of a conversion, so it is no row of one's own.
-/
import Derived.Test.YtmfoegpdjajicaaSecB
import Derived.ArgAppend
import Derived.Laws.OwnMore
namespace Go.Proofs.Ytmfoegpdjajicaa
open Go.RowKit

theorem below_setCells {base b : Nat} (hb : base ≤ b) {w0 : World} : ∀ (vs : List Value) (o : Nat) (w : World), Below base w0 w → Below base w0 (w.setCells b o vs)
  | [], _, _, h => h
  | v :: r, o, _w, h => below_setCells hb r (o + 1) _ (h.setCell (p := ⟨b, o, none⟩) hb v)
theorem size_setCells (b : Nat) : ∀ (vs : List Value) (o : Nat) (w : World), (w.setCells b o vs).heap.size = w.heap.size
  | [], _, _ => rfl
  | v :: r, o, w => by rw [World.setCells, size_setCells b r]; simp [World.setCell]
/-- []byte(s) with all that an append behind it asks. -/
theorem to_bytes2 (w : World) (s : ByteArray) : ∃ c w1, (convert 9 22 (.string s)).run Try.prog w = .ok (.slice (some ⟨w.heap.size, 0, none⟩) s.size c) w1 ∧
    Below w.heap.size w w1 ∧ w.heap.size < w1.heap.size ∧ s.size ≤ c ∧ Has w1 w1.heap.size (some ⟨w.heap.size, 0, none⟩) (ls s).length ((ls s).map bv) ∧
    ∀ j, j < c → (w1.cell? ⟨w.heap.size, j, none⟩).isSome = true ∧ w1.frozen? ⟨w.heap.size, j, none⟩ = false := by
  have hge := grownCap_ge w s.size 0 5
  have hnew := Lib.bytesWorld_at_new w 5 s
  have hsz : (Lib.bytesCells w 5 s).size = grownCap w s.size 0 5 := by
    unfold Lib.bytesCells
    have : s.data.size = s.size := rfl
    simp
    omega
  refine ⟨_, _, Lib.run_convert_string_bytes (P := Try.prog) w _ _ _ s tyStr tyBs tyU8, below_bytes w _ s, by rw [Lib.bytesWorld_size]; omega, hge, ?_, fun j hj => ⟨?_, ?_⟩⟩
  · refine ⟨by simp, fun hn => ⟨w.heap.size, 0, rfl, by rw [Lib.bytesWorld_size]; omega, fun j hj => ?_⟩⟩
    rw [List.length_map] at hj
    have hj' : j < s.size := by rwa [ls_length] at hj
    have hx := ls_get s j hj'
    rw [List.getElem?_eq_getElem hj, Option.some.injEq] at hx
    rw [Nat.zero_add, Lib.bytesWorld_cell w _ s j hj', List.getElem_map, hx]
    have : s.data.toList.getD j 0 = s[j] := by
      have h' : j < s.data.toList.length := by simpa using hj'
      rw [List.getD_eq_getElem?_getD, List.getElem?_eq_getElem h']
      rfl
    rw [this]
    rfl
  · unfold World.cell?
    rw [hnew]
    simp
    omega
  · unfold World.frozen?
    rw [hnew]
    simp
    omega

theorem wpList_app_conv {w0 : World} (w : World) {ops : Array Oper} {rest : List Oper} {o : Oper} {a : Act} {Q : Exit → Act → World → Prop} (hgd : o.guard = none) (s x : Operand)
    (ho : o.op = .call { callee := .builtin .append, args := #[s, x], argTypes := #[22, 22] })
    (base b c n : Nat) (T : List UInt8) (hs : a.eval s = .slice (some ⟨b, 0, none⟩) n c) (hT : Has w w.heap.size (some ⟨b, 0, none⟩) n (T.map bv)) (hTc : n ≤ c)
    (hsp : ∀ j, j < c → (w.cell? ⟨b, j, none⟩).isSome = true ∧ w.frozen? ⟨b, j, none⟩ = false) (hblt : b < w.heap.size)
    (A : Option Addr) (r : List UInt8) (c' B : Nat) (hx : a.eval x = .slice A r.length c') (hA : A = none → c' = 0) (hR : Has w B A r.length (r.map bv))
    (hsz : n + r.length ≤ 1000000000) (hb : Below base w0 w) (hbb : base ≤ b) (hbase : base ≤ w0.heap.size)
    (h : ∀ A'' c'' w', Has w' w'.heap.size A'' (n + r.length) ((T ++ r).map bv) → Below base w0 w' → wpList Try.prog ops Q rest (a.put o.dst (.slice A'' (n + r.length) c'')) w') : wpList Try.prog ops Q (o :: rest) a w := by
  obtain ⟨i, hi, hz0, hz1, hz2⟩ := info_parts infoU8
  have hTl : T.length = n := by have := hT.1; simpa using this
  have hcellT : ∀ j u, (T.map bv)[j]? = some u → w.cell? ⟨b, 0 + j, none⟩ = some u := by
    intro j u hu
    have hj : j < (T.map bv).length := (List.getElem?_eq_some_iff.1 hu).1
    have hjn : 0 < n := by rw [List.length_map, hTl] at hj; omega
    obtain ⟨b', off, e, _, hc⟩ := hT.2 hjn
    injection e with e
    injection e with e1 e2 _
    subst e1 e2
    rw [hc j hj, ← hu, List.getElem?_eq_getElem hj]
  match A, hx, hA, hR with
  | none, hx, hA, hR =>
    have hr0 : r.length = 0 := by
      by_cases h0 : 0 < r.length
      · obtain ⟨_, _, e, _⟩ := hR.2 h0
        cases e
      · omega
    have hr : r = [] := List.eq_nil_of_length_eq_zero hr0
    subst hr
    obtain rfl := hA rfl
    refine wpList_plain hgd fun K hK => ?_
    have hrun : (Builtin.append_ #[22, 22] o.type #[.slice (some ⟨b, 0, none⟩) n c, .slice none 0 0]).run Try.prog w = .ok (.slice (some ⟨b, 0, none⟩) n c) w := by
      simp [Builtin.append_, run_underlying tyBs, sizeOf, typeInfo, hi, Builtin.lenOf, hTc, Builtin.firstCells, storeCells]
    have := h (some ⟨b, 0, none⟩) c w (by simpa using hT) hb
    unfold Oper.wp
    simp [execOp, ho, resolve, invoke, builtin, hs, hx, hrun, Result.andThen]
    exact hK _ _ (by simpa using this)
  | some ad, hx, hA, hR =>
    have hnews : ∀ j u, (r.map bv)[j]? = some u → w.cell? (ad.add j) = some u := by
      intro j u hu
      have hj : j < (r.map bv).length := (List.getElem?_eq_some_iff.1 hu).1
      have hjn : 0 < r.length := by rw [List.length_map] at hj; omega
      obtain ⟨b', off, e, _, hc⟩ := hR.2 hjn
      injection e with e
      subst e
      have hadd : (⟨b', off, none⟩ : Addr).add j = ⟨b', off + j, none⟩ := by unfold Addr.add; split <;> simp_all
      rw [hadd, hc j hj, ← hu, List.getElem?_eq_getElem hj]
    refine wpList_append_arg w hgd s x 22 ho 5 i (.int .u8 0) 1 1 tyBs hi hz0 hz1 hz2 rfl (by decide) b 0 n c (T.map bv) hs (by simp [hTl]) hcellT ad r.length c' (r.map bv) hx (by simp) hnews (one_bytes r)
      (fun hroom j hj => by
        rw [List.length_map] at hj
        have := hsp (0 + n * 1 + j) (by omega)
        exact this) (by unfold maxLen; omega) (by omega) (fun hroom => ?_) (fun hgrow v' w' hown hg => ?_)
    · refine h (some ⟨b, 0, none⟩) c _ ⟨by simp [hTl], fun h0 => ⟨b, 0, rfl, by rw [size_setCells]; exact hblt, fun j hj => ?_⟩⟩ (below_setCells hbb _ _ _ hb)
      rw [List.length_map, List.length_append, hTl] at hj
      simp only [Nat.zero_add, Nat.mul_one]
      rw [List.getElem_map]
      by_cases hjn : j < n
      · rw [World.cell?_setCells_out b _ _ _ _ (fun _ _ => .inl hjn)]
        have := hcellT j (bv T[j]) (by rw [List.getElem?_map, List.getElem?_eq_getElem (by omega)]; rfl)
        rw [Nat.zero_add] at this
        rw [this, List.getElem_append_left (by omega)]
      · have hin := World.cell?_setCells_in b (r.map bv) (0 + n * 1) w (fun k hk => by
          rw [List.length_map] at hk
          exact (hsp (0 + n * 1 + k) (by omega)).1) (j - n) (by rw [List.length_map]; omega)
        simp only [Nat.zero_add, Nat.mul_one] at hin
        rw [show n + (j - n) = j by omega] at hin
        rw [hin, List.getElem_map, List.getElem_append_right (by omega)]
        simp only [hTl]
    · obtain ⟨A'', c'', rfl, hh, _⟩ := Has.of_own hown
      rw [← List.map_append] at hh
      exact h A'' c'' w' hh (hb.grown hg (Nat.le_trans hbase hb.size) (fun k e => by cases e))

end Go.Proofs.Ytmfoegpdjajicaa
