/-
  Contracts of package punycode's closure of thresholds, and of the functions that call it: thresholds, appendNumber, addNumber.
-/
import Derived.Test.YtoieapdfpbcfpaaDoorPuF
import Derived.Test.YtoieapdfpbcfpaaDoorPvA
import Derived.Test.YtoieapdfpbcfpaaDoorPu2
import Derived.OneCell
namespace Go.Proofs.YtoieapdfpbcfpaaDoor
open Go.RowKit

/-- The two variables of a closure of thresholds: K calls of it are done. -/
structure Clo (w : World) (B bk bb K bias : Nat) : Prop where
  lk : B ≤ bk
  ne : bk ≠ bb
  hk : w.heap[bk]? = some (.cells #[.int .i64 ((36 * K : Nat) : Int)] 3 (0, 0))
  hb : w.heap[bb]? = some (.cells #[.int .i64 (bias : Int)] 3 (0, 0))
theorem Clo.mono {w : World} {B B' bk bb K bias : Nat} (h : Clo w B bk bb K bias) (hB : B' ≤ B) : Clo w B' bk bb K bias := ⟨Nat.le_trans hB h.lk, h.ne, h.hk, h.hb⟩
theorem Clo.kept {w w' : World} {B bk bb K bias : Nat} {row : Option Nat} (h : Clo w B bk bb K bias) (hg : w.grownBy w' row) (h1 : some bk ≠ row) (h2 : some bb ≠ row) : Clo w' B bk bb K bias :=
  ⟨h.lk, h.ne, (hg.block bk (lt_of_block h.hk) h1).trans h.hk, (hg.block bb (lt_of_block h.hb) h2).trans h.hb⟩
theorem own_no_int {w : World} {base b n : Nat} {v u : Value} {xs : List Value} (h : w.ownsRow base 5 1 v n xs) (hb : w.heap[b]? = some (.cells #[u] 3 (0, 0))) : some b ≠ v.ownBlock := by
  rcases h.2 with ⟨rfl, _⟩ | ⟨g, cap, cur, rfl, _, hg, _⟩
  · simp [Value.ownBlock]
  · intro he
    simp [Value.ownBlock] at he
    subst he
    rw [hb] at hg
    simp at hg
theorem grown_setCell (w : World) (b : Nat) (u : Value) : w.grownBy (w.setCell ⟨b, 0, none⟩ u) (some b) :=
  ⟨rfl, rfl, rfl, by simp [World.setCell], fun k _ hne => Below.heap_setCell _ _ _ _ (fun e => hne (by rw [e]))⟩

set_option maxRecDepth 20000 in
theorem thr_make (bias : Nat) (hb : bias ≤ 1000000) (w : World) :
    Calls Tryd.prog 36 #[.int .i64 (bias : Int)] w fun e w' => (∃ bk bb, e = .returned (.func (.func 54) #[] #[.pointer (some ⟨bk, 0, none⟩), .pointer (some ⟨bb, 0, none⟩)]) ∧ Clo w' w.heap.size bk bb 0 bias) ∧ Below w.heap.size w w' := by
  have hmf : ∀ (fn : Fn) (first cap : Array Value) (w : World), (Instr.makeFunc fn first cap).run Tryd.prog w = .ok (.func fn first cap) w := fun _ _ _ _ => rfl
  go_enter Tryd.func36, Tryd.ntmps36
  go_wp2
  go_ret
  refine ⟨⟨_, _, rfl, ⟨by omega, by omega, ?_, ?_⟩⟩, ((Below.refl _ _).alloc (Nat.le_refl _) _).alloc (by simp) _⟩
  · show ((w.heap.push _).push _)[w.heap.size + 1]? = _
    rw [Array.getElem?_push, if_pos (by simp)]
    rfl
  · show ((w.heap.push _).push _)[w.heap.size]? = _
    rw [Array.getElem?_push, if_neg (by simp), Array.getElem?_push, if_pos rfl]

theorem thr_clo (K bias : Nat) (x : Int) (hx : max ((36 : Int) * K + 36 - bias) 1 = x) : min x 26 = ((thr K bias : Nat) : Int) := by rw [← hx]; unfold thr; omega

set_option maxRecDepth 20000 in
/-- One call of the closure. -/
theorem clo_call (w : World) (B bk bb K bias : Nat) (hc : Clo w B bk bb K bias) (hK : K ≤ 100000000) (hbi : bias ≤ 1000000) :
    Calls Tryd.prog 54 #[.pointer (some ⟨bk, 0, none⟩), .pointer (some ⟨bb, 0, none⟩)] w fun e w' => e = .returned (.int .i64 (thr K bias : Nat)) ∧ Clo w' B bk bb (K + 1) bias ∧ w.grownBy w' (some bk) := by
  have c1 := cell_of_one hc.hk
  have c2 := cell_of_one hc.hb
  have f1 := free_of_one hc.hk
  obtain ⟨z, hz⟩ : ∃ z : Int, z = ((36 * K : Nat) : Int) := ⟨_, rfl⟩
  rw [← hz] at c1
  have hne := hc.ne
  have c3 : (w.setCell ⟨bk, 0, none⟩ (.int .i64 (z + 36))).cell? ⟨bk, 0, none⟩ = some (.int .i64 (z + 36)) := cell_of_one (one_setCell hc.hk)
  have c4 : (w.setCell ⟨bk, 0, none⟩ (.int .i64 (z + 36))).cell? ⟨bb, 0, none⟩ = some (.int .i64 (bias : Int)) := by
    rw [World.cell?_of_block (w := w) (Below.heap_setCell _ _ _ _ (fun e => hne e.symm))]
    exact c2
  obtain ⟨x, hx⟩ : ∃ x, max (z + 36 - (bias : Int)) (1 : Int) = x := ⟨_, rfl⟩
  have hy : min x (26 : Int) = (thr K bias : Nat) := thr_clo K bias x (by rw [← hx, hz]; omega)
  have hmax : ∀ (W : World) ts ty, (Builtin.max_ ts ty #[.int .i64 (z + 36 - (bias : Int)), .int .i64 1]).run Tryd.prog W = .ok (.int .i64 x) W := fun W ts ty => max_two W ts ty _ _ _ hx
  have hmin : ∀ (W : World) ts ty, (Builtin.min_ ts ty #[.int .i64 x, .int .i64 26]).run Tryd.prog W = .ok (.int .i64 (thr K bias : Nat)) W := fun W ts ty => min_two W ts ty _ _ _ hy
  have hz0 : 0 ≤ z := by omega
  have hz1 : z ≤ 3600000000 := by omega
  have HC : Hid (Clo (w.setCell ⟨bk, 0, none⟩ (.int .i64 (z + 36))) B bk bb (K + 1) bias) := by
    refine Lib.hid ⟨hc.lk, hne, ?_, (Below.heap_setCell _ _ _ _ (fun e => hne e.symm)).trans hc.hb⟩
    have := one_setCell (u := .int .i64 (z + 36)) hc.hk
    rw [show ((36 * (K + 1) : Nat) : Int) = z + 36 by omega]
    exact this
  clear hx hy hz hc
  go_enter Tryd.func54, Tryd.ntmps54
  go_wp2
  go_ret
  exact ⟨rfl, HC.out, grown_setCell _ _ _⟩

set_option maxRecDepth 20000 in
set_option maxHeartbeats 2000000 in
/-- appendNumber: the digits of a number behind bytes of the caller's own. -/
theorem appN_any (B : Nat) (w0 w : World) (v : Value) (X : List UInt8) (N : Nat) (hN : N = X.length) (e bias bk bb : Nat) (hown : w.ownsRow B 5 1 v N (X.map bv)) (hc : Clo w B bk bb 0 bias) (hb : Below B w0 w) (hB : B ≤ w0.heap.size) (he : e ≤ 17179869184) (hbi : bias ≤ 1000) (hX : N ≤ 4000) :
    Calls Tryd.prog 35 #[v, .int .i64 (e : Int), .func (.func 54) #[] #[.pointer (some ⟨bk, 0, none⟩), .pointer (some ⟨bb, 0, none⟩)]] w fun e' w' => (∃ v', e' = .returned v' ∧ w'.ownsRow B 5 1 v' (N + (genV e 0 bias).length) ((X ++ (genV e 0 bias).map digB).map bv)) ∧ Below B w0 w' := by
  obtain ⟨i5, hi5, hz0, hz1, hz2⟩ := info_parts infoU8
  have hgl : (genV e 0 bias).length ≤ 12 := genV_len 11 e 0 bias (Nat.lt_of_le_of_lt he (by decide))
  have HGL := Lib.hid hgl
  have HC0 := Lib.hid hc
  clear hgl hc
  go_enter Tryd.func35, Tryd.ntmps35
  go_wp2_with fail
  go_loopw [0, 1] (fun v q wr => ∃ (Q K : Nat) (L : List Nat), q = .int .i64 Q ∧ Q ≤ 17179869184 ∧ K ≤ 12 ∧ Hid (K = L.length) ∧ Hid (L ++ genV Q K bias = genV e 0 bias) ∧
    wr.ownsRow B 5 1 v (N + K) ((X ++ L.map digB).map bv) ∧ Hid (Clo wr B bk bb K bias) ∧ Below B w0 wr) (fun _ q _ => (intOf q).toNat)
  case atStart => exact ⟨e, 0, [], rfl, he, by omega, Lib.hid rfl, Lib.hid rfl, by simpa using hown, HC0, hb⟩
  case round =>
    clear hown hb
    obtain ⟨Q, K, L, rfl, hQ, hK, HK, HLG, hown, HC, hb⟩ := hrel
    have ht := thr_range K bias
    have cT := fun h1 h2 => clo_call wr B bk bb K bias HC.out h1 h2
    replace cT := cT (by omega) (by omega)
    have hlenG : L.length + (genV Q K bias).length ≤ 12 := by have := HGL.out; rw [← HLG.out, List.length_append] at this; exact this
    have hno := own_no_int hown HC.out.hk
    have HNO := Lib.hid hno
    have HLK := Lib.hid HC.out.lk
    clear hno
    by_cases hqt : Q < thr K bias
    · have hone := genV_one hqt
      have hge : decide ((Q : Int) < ((thr K bias : Nat) : Int)) = true := decide_eq_true (by omega)
      have hgeN : decide (Q < thr K bias) = true := decide_eq_true hqt
      have cD := digB_any Q (by omega)
      have HLE : Hid (X ++ (genV e 0 bias).map digB = (X ++ L.map digB) ++ [digB Q]) := by
        show _ = _
        rw [← HLG.out, hone, List.map_append, List.append_assoc]
        rfl
      have HLL : Hid (N + (genV e 0 bias).length = N + K + 1) := by
        show _ = _
        rw [← HLG.out, hone, List.length_append, HK.out]
        rfl
      generalize thr K bias = t at *
      clear hone hlenG
      go_wp2_with fail
      refine cT.mono ?_
      rintro e' w1 ⟨rfl, hc1, hg1⟩
      have hown1 := hown.kept hg1 (.inr (fun h => HNO.out h.symm))
      have hb1 := hb.grown hg1 (Nat.le_trans hB hb.size) (fun k hk => by injection hk with hk; rw [← hk]; exact HLK.out)
      clear hg1 hown hb hc1
      go_wp2_with (first
        | (go_at_call 53; refine (cD _).mono ?_; rintro e w' ⟨rfl, rfl⟩)
        | (at_builtin; refine wpList_app_one w1 rfl _ _ 41 rfl B 5 i5 (.int .u8 0) 1 tyBs hi5 hz0 hz1 hz2 rfl _ (by exact rfl) _ _ _ (by exact rfl) hown1 (by exact rfl) (by unfold maxLen; omega) (by omega) hb1 hB ?_; intro v' w' hown' hb' _))
      go_ret
      refine ⟨⟨_, rfl, ?_⟩, hb'⟩
      rw [HLE.out, HLL.out, List.map_append]
      exact hown'
    · have hmore := genV_more hqt
      have hge : decide ((Q : Int) < ((thr K bias : Nat) : Int)) = false := decide_eq_false (by omega)
      have hgeN : decide (Q < thr K bias) = false := decide_eq_false hqt
      have hless := gen_less Q _ hqt ht.1
      obtain ⟨t, hte⟩ : ∃ t, t = thr K bias := ⟨_, rfl⟩
      rw [← hte] at hmore hge hgeN hless ht hqt cT
      obtain ⟨rm, hrm⟩ : ∃ rm, rm = (Q - t) % (36 - t) := ⟨_, rfl⟩
      obtain ⟨Q2, hQ2⟩ : ∃ Q2, Q2 = (Q - t) / (36 - t) := ⟨_, rfl⟩
      have hrmb : rm < 36 - t := by rw [hrm]; exact Nat.mod_lt _ (by omega)
      have hmod : Int.tmod ((Q : Int) - (t : Int)) (36 - (t : Int)) = (rm : Int) := by
        rw [Int.tmod_eq_emod_of_nonneg (by omega), hrm, show ((Q : Int) - (t : Int)) = ((Q - t : Nat) : Int) by omega, show (36 - (t : Int)) = ((36 - t : Nat) : Int) by omega]
        exact (Int.natCast_emod _ _).symm
      have hdiv : Int.tdiv ((Q : Int) - (t : Int)) (36 - (t : Int)) = (Q2 : Int) := by
        rw [Int.tdiv_eq_ediv_of_nonneg (by omega), hQ2, show ((Q : Int) - (t : Int)) = ((Q - t : Nat) : Int) by omega, show (36 - (t : Int)) = ((36 - t : Nat) : Int) by omega]
        exact (Int.natCast_ediv _ _).symm
      have hne0 : ¬ (36 - (t : Int) = 0) := by omega
      rw [← hrm, ← hQ2] at hmore
      rw [← hQ2] at hless
      have cD := digB_any (t + rm) (by omega)
      rw [show ((t + rm : Nat) : Int) = (t : Int) + (rm : Int) by omega] at cD
      have HL2 : Hid ((L ++ [t + rm]) ++ genV Q2 (K + 1) bias = genV e 0 bias) := by
        show _ = _
        rw [← HLG.out, hmore, List.append_assoc]
        rfl
      have hK12 : K + 1 ≤ 12 := by
        rw [hmore, List.length_cons] at hlenG
        have := HK.out
        omega
      have HXL : Hid ((X ++ (L ++ [t + rm]).map digB).map bv = (X ++ L.map digB).map bv ++ [bv (digB (t + rm))]) := by
        show _ = _
        simp
      clear hmore hrm hQ2 hlenG hte hqt
      go_wp2_with fail
      refine cT.mono ?_
      rintro e' w1 ⟨rfl, hc1, hg1⟩
      have hown1 := hown.kept hg1 (.inr (fun h => HNO.out h.symm))
      have hb1 := hb.grown hg1 (Nat.le_trans hB hb.size) (fun k hk => by injection hk with hk; rw [← hk]; exact HLK.out)
      have HN1 := Lib.hid (own_no_int hown1 hc1.hk)
      have HN2 := Lib.hid (own_no_int hown1 hc1.hb)
      have HC1 := Lib.hid hc1
      clear hg1 hown hb hc1
      go_wp2_with (first
        | (go_at_call 53; refine (cD _).mono ?_; rintro e w' ⟨rfl, rfl⟩)
        | (at_builtin; refine wpList_app_one w1 rfl _ _ 41 rfl B 5 i5 (.int .u8 0) 1 tyBs hi5 hz0 hz1 hz2 rfl _ (by exact rfl) _ _ _ (by exact rfl) hown1 (by exact rfl) (by unfold maxLen; omega) (by omega) hb1 hB ?_; intro v' w' hown' hb' hg'))
      go_roundw
      case rel =>
        refine ⟨Q2, K + 1, L ++ [t + rm], rfl, by omega, hK12, ?_, HL2, ?_, Lib.hid (HC1.out.kept hg' HN1.out HN2.out), hb'⟩
        · show _ = _
          rw [List.length_append, ← HK.out]
          rfl
        · rw [HXL.out]
          exact hown'
      case measure => simp [intOf]; omega

end Go.Proofs.YtoieapdfpbcfpaaDoor
