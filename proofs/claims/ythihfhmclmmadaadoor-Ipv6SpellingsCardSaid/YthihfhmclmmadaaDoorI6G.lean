/-
  The longest run of groups 0, met by trying (plain); contract of longestZeros of package ipv6.
-/
import Derived.Test.YthihfhmclmmadaaDoorI6A
import Derived.Test.YthihfhmclmmadaaDoorSlA
import Derived.Laws.CopyRow
namespace Go.Proofs.YthihfhmclmmadaaDoor
open Go.RowKit

/-- n groups from f on cleared. -/
def clr (a : List Nat) (f n : Nat) : List Nat := a.take f ++ (zerosN n ++ a.drop (f + n))
theorem clr_length (a : List Nat) (f n : Nat) (h : f + n ≤ a.length) : (clr a f n).length = a.length := by
  unfold clr zerosN
  simp
  omega
theorem clr_iff (a : List Nat) (f n : Nat) (h : f + n ≤ a.length) : clr a f n = a ↔ n ≤ zrun (a.drop f) := by
  have hsp : a = a.take f ++ ((a.drop f).take n ++ (a.drop f).drop n) := by rw [List.take_append_drop, List.take_append_drop]
  have hlen : ((a.drop f).take n).length = n := by simp; omega
  have h1 : clr a f n = a ↔ (a.drop f).take n = zerosN n := by
    unfold clr
    rw [← List.drop_drop]
    constructor
    · intro e
      conv at e => rhs; rw [hsp]
      have := List.append_cancel_left e
      exact (List.append_inj this (by simp [zerosN]; omega)).1.symm
    · intro e
      conv => rhs; rw [hsp, e]
  rw [h1]
  generalize a.drop f = b at hlen ⊢
  clear h1 hsp
  constructor
  · intro e
    have : ∀ (b : List Nat) (n : Nat), b.take n = zerosN n → n ≤ zrun b := by
      intro b
      induction b with
      | nil => intro n e; cases n with
        | zero => exact Nat.zero_le _
        | succ n => simp [zerosN, List.replicate_succ] at e
      | cons x r ih =>
        intro n e
        cases n with
        | zero => exact Nat.zero_le _
        | succ n =>
          simp only [zerosN, List.replicate_succ, List.take_succ_cons, List.cons.injEq] at e
          have h2 := ih n e.2
          unfold zrun at h2 ⊢
          rw [List.takeWhile_cons, if_pos (by simp [e.1])]
          simp only [List.length_cons]
          omega
    exact this b n e
  · intro hle
    have h2 := zrun_zero b
    have h3 : b.take n = (b.take (zrun b)).take n := by rw [List.take_take, Nat.min_eq_left hle]
    rw [h3, h2]
    unfold zerosN
    rw [List.take_replicate, Nat.min_eq_left hle]
/-- Not one run of two. -/
theorem best_no (a : List Nat) (h : ∀ f, zrun (a.drop f) ≤ 1) : ∀ k, bestUpto a k = (-1, 1)
  | 0 => rfl
  | k + 1 => by
    rw [bestUpto_succ, best_no a h k]
    unfold bestStep
    have := h k
    rw [if_neg (by omega)]
/-- The first one of the longest. -/
theorem best_yes (a : List Nat) (i L : Nat) (h2 : 2 ≤ L) (hi : zrun (a.drop i) = L) (hb : ∀ f, f < i → zrun (a.drop f) < L) (ha : ∀ f, zrun (a.drop f) ≤ L) :
    ∀ k, (k ≤ i → (bestUpto a k).2 < L) ∧ (i < k → bestUpto a k = ((i : Int), L))
  | 0 => ⟨fun _ => by show 1 < L; omega, fun h => by omega⟩
  | k + 1 => by
    have ih := best_yes a i L h2 hi hb ha k
    rw [bestUpto_succ]
    unfold bestStep
    refine ⟨fun hk => ?_, fun hk => ?_⟩
    · split
      · exact hb k (by omega)
      · exact ih.1 (by omega)
    · by_cases hki : k = i
      · subst hki
        rw [hi, if_pos (ih.1 (Nat.le_refl _))]
      · rw [ih.2 (by omega), if_neg (by have := ha k; simp only; omega)]

/-- All runs that are longer than L were tried. -/
def Tried (a : List Nat) (L : Nat) : Prop := ∀ n f, L < n → f + n ≤ 8 → clr a f n ≠ a
theorem tried_all (a : List Nat) : Tried a 8 := fun n f h h2 => by omega
theorem tried_next {a : List Nat} {L : Nat} (h : Tried a L) (hn : ∀ f, f + L ≤ 8 → clr a f L ≠ a) (h0 : 0 < L) : Tried a (L - 1) := by
  intro n f h1 h2
  by_cases e : n = L
  · subst e; exact hn f h2
  · exact h n f (by omega) h2
theorem tried_zrun {a : List Nat} (ha : a.length = 8) {L : Nat} (h : Tried a L) (f : Nat) : zrun (a.drop f) ≤ L := by
  by_cases hc : L < zrun (a.drop f)
  · have h1 := zrun_le (a.drop f)
    rw [List.length_drop] at h1
    exact absurd ((clr_iff a f _ (by omega)).2 (Nat.le_refl _)) (h _ f hc (by omega))
  · omega
theorem tried_none {a : List Nat} (ha : a.length = 8) (h : Tried a 1) : bestUpto a 8 = (-1, 1) := best_no a (tried_zrun ha h) 8
theorem tried_some {a : List Nat} (ha : a.length = 8) {L i : Nat} (h2 : 2 ≤ L) (h : Tried a L) (hb : ∀ f, f < i → clr a f L ≠ a) (hi : i + L ≤ 8) (hc : clr a i L = a) : bestUpto a 8 = ((i : Int), L) := by
  have h3 := (clr_iff a i L (by omega)).1 hc
  refine (best_yes a i L h2 (by have := tried_zrun ha h i; omega) (fun f hf => ?_) (tried_zrun ha h) 8).2 (by omega)
  by_cases hq : L ≤ zrun (a.drop f)
  · exact absurd ((clr_iff a f L (by omega)).2 hq) (hb f hf)
  · omega

theorem zeroU16 : ∀ w, (zeroValue 22).run Tryd.prog w = .ok (.int .u16 0) w := by
  intro w
  cases hi : Tryd.prog.info? 22 with
  | none => have := infoU16; rw [hi] at this; cases this
  | some i =>
    have := infoU16
    rw [hi] at this
    simp only [Option.map_some, Option.some.injEq, Prod.mk.injEq] at this
    simp [zeroValue, typeInfo, hi, this.1]
theorem zero_cells (n : Nat) : (Builtin.zeroCells (Value.int .u16 0).cells n).toList = uv (zerosN n) := by
  have h : (Value.int .u16 0).cells = #[.int .u16 0] := rfl
  rw [h]
  apply List.ext_getElem
  · simp [Builtin.zeroCells, uv, zerosN]
  · intro i h1 h2
    simp [Builtin.zeroCells, uv, zerosN, Nat.mod_one]
/-- clear(a[f:f+n]) of an array of eight groups. -/
theorem wpList_clear_a8 (w : World) {ops : Array Oper} {rest : List Oper} {o : Oper} {a : Act} {Q : Exit → Act → World → Prop} (hg : o.guard = none) (hd : o.dst = none) (x : Operand)
    (hop : o.op = .call { callee := .builtin .clear, args := #[x], argTypes := #[47] }) (g f n cap : Nat) (hx : a.eval x = .slice (some ⟨g, f, none⟩) n cap) (C : List Nat) (hrow : RowA w g C) (hC : C.length = 8) (h8 : f + n ≤ 8) (h0 : 0 < n)
    (h : ∀ w', RowA w' g (clr C f n) → w.grownBy w' (some g) → wpList Tryd.prog ops Q rest a w') : wpList Tryd.prog ops Q (o :: rest) a w := by
  refine wpList_plain hg fun K hK => ?_
  obtain ⟨m, rfl⟩ : ∃ m, n = m + 1 := ⟨n - 1, by omega⟩
  have hsz : (av C).size = 8 := by rw [av_size, hC]
  have hst := run_storeCells_at Tryd.prog g f 23 (uv (zerosN (m + 1))) 0 (av C) w hrow (by rw [uv_length, hsz]; simp [zerosN]; omega) (uv_one _)
  have hval : ((av C).toList.take (f + 0) ++ uv (zerosN (m + 1)) ++ (av C).toList.drop (f + 0 + (uv (zerosN (m + 1))).length)).toArray = av (clr C f (m + 1)) := by
    have hl : (uv (zerosN (m + 1))).length = m + 1 := by rw [uv_length]; simp [zerosN]
    rw [hl]
    simp [av, uv, clr, List.map_take, List.map_drop]
  rw [hval] at hst
  have hrun : (Builtin.clear_ #[47] o.type #[.slice (some ⟨g, f, none⟩) (m + 1) cap]).run Tryd.prog w = .ok (.tuple #[]) (w.setRow g (av (clr C f (m + 1)))) := by
    simp [Builtin.clear_, run_underlying tyU16s, zeroU16, zero_cells, hst, Result.andThen]
  have : wpList Tryd.prog ops Q rest (a.put o.dst (.tuple #[])) (w.setRow g (av (clr C f (m + 1)))) := by
    rw [hd]
    exact h _ (setRow_heap w g (av C) _ _ _ hrow) (grown_setRow w g _)
  unfold Oper.wp
  simp [execOp, hop, resolve, invoke, builtin, hx, hrun, Result.andThen]
  exact hK _ _ this

/-- The place of the gap. -/
def lzS (a : List Nat) : Nat := if (bestUpto a 8).1 < 0 then 0 else (bestUpto a 8).1.toNat
def lzE (a : List Nat) : Nat := if (bestUpto a 8).1 < 0 then 0 else (bestUpto a 8).1.toNat + (bestUpto a 8).2

set_option maxRecDepth 20000 in
set_option maxHeartbeats 4000000 in
theorem long_any (a : List Nat) (ha : a.length = 8) (w : World) :
    Calls Tryd.prog 22 #[.agg (av a)] w fun e w' => e = .returned (.tuple #[.int .i64 (lzS a : Nat), .int .i64 (lzE a : Nat)]) ∧ Below w.heap.size w w' := by
  have HAL := Lib.hid ha
  go_enter Tryd.func22, Tryd.ntmps22
  go_wp2_with (refine wpList_box_arr _ rfl 1 rfl _ _ rfl _ (av a) (by exact rfl) (by exact rfl) ?_; intro W1 ga hga hla hA hG)
  have hb1 : Below w.heap.size w W1 := below_row0 (Below.refl w.heap.size w) hG (Nat.le_refl _)
  clear hG
  go_loopw [4] (fun i wr => ∃ (L : Nat) (z : Int), i = .int .i64 z ∧ Hid (z = (L : Int)) ∧ 1 ≤ z ∧ z ≤ 8 ∧ Hid (Tried a L) ∧ RowA wr ga a ∧ Below w.heap.size w wr) (fun i _ => (intOf i).toNat)
  case atStart => exact ⟨8, 8, rfl, Lib.hid rfl, by omega, by omega, Lib.hid (tried_all a), hA, hb1⟩
  case round =>
    obtain ⟨L, z, rfl, HZ, hz1, hz8, HTR, hrow, hb⟩ := hrel
    by_cases h2 : 2 ≤ z
    · have hd : decide (z ≥ 2) = true := decide_eq_true h2
      have hL2 : 2 ≤ L := by have := HZ.out; omega
      have HL2 := Lib.hid hL2
      clear hL2
      go_wp2
      go_loopw [14] (fun i wq => ∃ k : Nat, i = .int .i64 k ∧ (k : Int) ≤ 8 - z + 1 ∧ Hid (∀ f, f < k → clr a f L ≠ a) ∧ RowA wq ga a ∧ Below w.heap.size w wq) (fun i _ => 9 - (intOf i).toNat)
      case atStart => exact ⟨0, rfl, by omega, Lib.hid (fun f hf => by omega), hrow, hb⟩
      case round =>
        obtain ⟨k, rfl, hk, HN, hrow2, hb2⟩ := hrel
        by_cases hlt : (k : Int) < 8 - z + 1
        · have hd2 : decide ((k : Int) < 8 - z + 1) = true := decide_eq_true hlt
          have hkL : k + L ≤ 8 := by have := HZ.out; omega
          have hL0 : 0 < L := by have := HL2.out; omega
          have hsl := fun g W => run_slice_arr (P := Tryd.prog) 23 22 8 g k (k + L) tyA8 sizeU16 (some (.int .i64 (k : Int))) (some (.int .i64 ((k : Int) + z))) (.inl rfl) (.inl (by rw [HZ.out, Int.natCast_add])) (by omega) hkL W
          simp only [if_neg (show ¬ 8 = k by have := HL2.out; omega), show k + L - k = L by omega] at hsl
          obtain ⟨E, hE⟩ : ∃ E, E = clr a k L := ⟨_, rfl⟩
          have hEl : E.length = 8 := by rw [hE, clr_length a k L (by rw [HAL.out]; exact hkL), HAL.out]
          have heq := eq_av E a hEl HAL.out
          have HE := Lib.hid hE
          have HK8 := Lib.hid hkL
          have HL0 := Lib.hid hL0
          clear hE hkL hL0
          by_cases hc : E = a
          · have hdc : decide (E = a) = true := decide_eq_true hc
            rw [hdc] at heq
            have HS : Hid (lzS a = k ∧ lzE a = k + L) := by
              have := tried_some HAL.out HL2.out HTR.out HN.out HK8.out (HE.out ▸ hc)
              show _ ∧ _
              unfold lzS lzE
              rw [this, if_neg (by simp only; omega), if_neg (by simp only; omega)]
              exact ⟨by simp, by simp⟩
            clear hdc hc
            go_wp2_with (first
              | (refine wpList_load_arr _ rfl _ _ rfl ga (by exact rfl) _ (av a) hrow2 8 _ tyA8 (sizeA a HAL.out) ?_)
              | (refine wpList_alloc_arr _ rfl 6 rfl _ rfl _ zeroA8 ?_; intro W4 gc hgc hlc hC hGc; have hrow4 := hrow2.grown0 hGc; have hb4 := below_row0 hb2 hGc (Nat.le_refl _); have hne : ga ≠ gc := (by have := hrow2.lt; omega); have hgw : w.heap.size ≤ gc := (by have := hb2.size; omega))
              | (refine wpList_store_arr _ rfl rfl _ _ _ rfl gc (by exact rfl) (av a) (by exact rfl) _ _ hC (sizeA a HAL.out) (by rw [av_size, av_size, HAL.out]; rfl) (av_one a) ?_; intro W5 hC5 hG5; have hrow5 := hrow4.grown hG5 hne; have hb5 := below_row hb4 hG5 (Nat.le_refl _) hgw)
              | (refine wpList_clear_a8 _ rfl rfl _ rfl gc k L (8 - k) (by exact rfl) a hC5 HAL.out HK8.out HL0.out ?_; intro W6 hC6 hG6; have hrow6 := hrow5.grown hG6 hne; have hb6 := below_row hb5 hG6 (Nat.le_refl _) hgw; rw [← HE.out] at hC6)
              | (refine wpList_load_arr _ rfl _ _ rfl gc (by exact rfl) _ (av E) hC6 8 _ tyA8 (sizeA E hEl) ?_)
              | (refine wpList_load_arr _ rfl _ _ rfl ga (by exact rfl) _ (av a) hrow6 8 _ tyA8 (sizeA a HAL.out) ?_))
            go_ret2
            refine ⟨?_, hb6⟩
            rw [HS.out.1, HS.out.2]
            rw [show ((k + L : Nat) : Int) = (k : Int) + z by rw [HZ.out, Int.natCast_add]]
            rfl
          · have hdc : decide (E = a) = false := decide_eq_false hc
            rw [hdc] at heq
            have HN2 : Hid (∀ f, f < k + 1 → clr a f L ≠ a) := by
              show ∀ f, _
              intro f hf
              by_cases e : f = k
              · subst e; rw [← HE.out]; exact hc
              · exact HN.out f (by omega)
            clear hdc hc
            go_wp2_with (first
              | (refine wpList_load_arr _ rfl _ _ rfl ga (by exact rfl) _ (av a) hrow2 8 _ tyA8 (sizeA a HAL.out) ?_)
              | (refine wpList_alloc_arr _ rfl 6 rfl _ rfl _ zeroA8 ?_; intro W4 gc hgc hlc hC hGc; have hrow4 := hrow2.grown0 hGc; have hb4 := below_row0 hb2 hGc (Nat.le_refl _); have hne : ga ≠ gc := (by have := hrow2.lt; omega); have hgw : w.heap.size ≤ gc := (by have := hb2.size; omega))
              | (refine wpList_store_arr _ rfl rfl _ _ _ rfl gc (by exact rfl) (av a) (by exact rfl) _ _ hC (sizeA a HAL.out) (by rw [av_size, av_size, HAL.out]; rfl) (av_one a) ?_; intro W5 hC5 hG5; have hrow5 := hrow4.grown hG5 hne; have hb5 := below_row hb4 hG5 (Nat.le_refl _) hgw)
              | (refine wpList_clear_a8 _ rfl rfl _ rfl gc k L (8 - k) (by exact rfl) a hC5 HAL.out HK8.out HL0.out ?_; intro W6 hC6 hG6; have hrow6 := hrow5.grown hG6 hne; have hb6 := below_row hb5 hG6 (Nat.le_refl _) hgw; rw [← HE.out] at hC6)
              | (refine wpList_load_arr _ rfl _ _ rfl gc (by exact rfl) _ (av E) hC6 8 _ tyA8 (sizeA E hEl) ?_)
              | (refine wpList_load_arr _ rfl _ _ rfl ga (by exact rfl) _ (av a) hrow6 8 _ tyA8 (sizeA a HAL.out) ?_))
            go_roundw
            case rel => exact ⟨k + 1, by go_num, by omega, HN2, hrow6, hb6⟩
            case measure => simp [intOf]; omega
        · have hd2 : decide ((k : Int) < 8 - z + 1) = false := decide_eq_false hlt
          have HTR2 : Hid (Tried a (L - 1)) := by
            refine Lib.hid (tried_next HTR.out (fun f hf => HN.out f ?_) (by have := HL2.out; omega))
            have := HZ.out
            omega
          go_wp2
          go_roundw
          case rel => exact ⟨L - 1, z - 1, by first | rfl | go_num, Lib.hid (by have := HZ.out; have := HL2.out; omega), by omega, by omega, HTR2, hrow2, hb2⟩
          case measure => simp [intOf]; omega
    · have hd : decide (z ≥ 2) = false := decide_eq_false h2
      have HS : Hid (lzS a = 0 ∧ lzE a = 0) := by
        have hL : L = 1 := by have := HZ.out; omega
        have := tried_none HAL.out (hL ▸ HTR.out)
        show _ ∧ _
        unfold lzS lzE
        rw [this, if_pos (by decide), if_pos (by decide)]
        exact ⟨rfl, rfl⟩
      go_wp2
      go_ret2
      refine ⟨?_, hb⟩
      rw [HS.out.1, HS.out.2]
      rfl

end Go.Proofs.YthihfhmclmmadaaDoor
