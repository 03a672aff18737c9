/-
  hstsstorekeep.Directives.
-/
import Derived.Test.YtbpgkdhdooaigaaDvM
import Derived.Test.YtbpgkdhdooaigaaTyB
import Derived.Deep.QuietTactic
import Derived.BigQuiet
import Derived.WalkSmall
namespace Go.Proofs.Ytbpgkdhdooaigaa
open Go.RowKit

theorem tyBool : Try.prog.underlying 4 = some .bool := by kernel_rfl
theorem bs_inj {a b : List UInt8} (h : bs a = bs b) : a = b := by rw [← ls_bs a, h, ls_bs]
set_option maxRecDepth 20000 in
theorem eq_dv (d e : Dv) (W : World) : (binOp .eql 40 (.agg #[.string (bs d.name), .string (bs d.value), .bool d.has]) (.agg #[.string (bs e.name), .string (bs e.value), .bool e.has])).run Try.prog W = .ok (.bool (decide (d = e))) W := by
  obtain ⟨n, v, h⟩ := d
  obtain ⟨n', v', h'⟩ := e
  have e0 : decide (Dv.mk n v h = Dv.mk n' v' h') = (decide ((bs n).toList = (bs n').toList) && (decide ((bs v).toList = (bs v').toList) && decide (h = h'))) := by
    simp only [toList_ls, ls_bs, Dv.mk.injEq, Bool.decide_and]
  rw [e0]
  simp only
  generalize bs n = N1 at *
  generalize bs n' = N2 at *
  generalize bs v = V1 at *
  generalize bs v' = V2 at *
  by_cases h1 : N1.toList = N2.toList
  · by_cases h2 : V1.toList = V2.toList
    · by_cases h3 : h = h'
      · simp [go_sem, h1, h2, h3]
      · simp [go_sem, h1, h2, h3]
    · simp [go_sem, h1, h2]
  · simp [go_sem, h1]
theorem neq_dvq {t : TypeId} {a b : Array Value} {q : Bool} {W : World} (h : (binOp .eql t (.agg a) (.agg b)).run Try.prog W = .ok (.bool q) W) : (binOp .neq t (.agg a) (.agg b)).run Try.prog W = .ok (.bool (!q)) W := by
  simp only [binOp, Sem.run_bind] at h ⊢
  cases he : (Op.equal t (.agg a) (.agg b)).run Try.prog W with
  | ok v w' =>
    rw [he] at h
    simp only [Result.andThen, Sem.run_pure] at h ⊢
    injection h with h1 h2
    injection h1 with h1
    rw [h1, h2]
  | _ => rw [he] at h; cases h
theorem neq_dv {d e : Dv} {q : Bool} (h : decide (d = e) = q) (W : World) : (binOp .neq 40 (.agg #[.string (bs d.name), .string (bs d.value), .bool d.has]) (.agg #[.string (bs e.name), .string (bs e.value), .bool e.has])).run Try.prog W = .ok (.bool (!q)) W := by
  have := neq_dvq (eq_dv d e W)
  rwa [h] at this
theorem drewN_belD {B : Nat} {w x : World} (h : Below B w x) (k : Nat) : Below B w (x.drewN k) := h.trans ⟨rfl, rfl, rfl, Nat.le_refl _, fun _ _ => rfl⟩
theorem take_eqD {xs ys : List Dv} {k : Nat} (h1 : k < xs.length) (h2 : k < ys.length) (ht : xs.take k = ys.take k) (he : xs[k] = ys[k]) : xs.take (k + 1) = ys.take (k + 1) := by
  rw [List.take_succ_eq_append_getElem h1, List.take_succ_eq_append_getElem h2, ht, he]

set_option maxRecDepth 20000 in
set_option maxHeartbeats 4000000 in
theorem dirs_any (A1 A2 : Option Addr) (n1 n2 c1 c2 : Nat) (xs ys : List Dv) (B : Nat) (w : World) (hA1 : HasDv w B A1 n1 xs) (hA2 : HasDv w B A2 n2 ys) (hB : B ≤ w.heap.size) (hl1 : n1 ≤ 1000000) (_hl2 : n2 ≤ 1000000) (_hc1 : n1 ≤ c1) (_hc2 : n2 ≤ c2) :
    Calls Try.prog 11 #[.slice A1 n1 c1, .slice A2 n2 c2] w fun e w' => e = .returned (.bool (decide (xs = ys))) ∧ Below w.heap.size w w' := by
  have HL1 := Lib.hid hA1.1
  have HL2 := Lib.hid hA2.1
  have HA1 := Lib.hid hA1
  have HA2 := Lib.hid hA2
  clear hA1 hA2
  by_cases hsz : n1 = n2
  · have hsz' : ((n1 : Int) != (n2 : Int)) = false := by simp [hsz]
    have HZ := Lib.hid hsz
    clear hsz
    go_enter Try.func11, Try.ntmps11
    go_wp2
    go_loopw [5] (fun i wr => ∃ k : Nat, k ≤ n1 ∧ i = .int .i64 k ∧ Hid (Below w.heap.size w wr) ∧ Hid (xs.take k = ys.take k)) (fun i _ => n1 - (intOf i).toNat)
    case atStart => exact ⟨0, Nat.zero_le _, rfl, Lib.hid (Below.refl _ _), Lib.hid rfl⟩
    case round =>
      obtain ⟨k, hk, rfl, HW, HT⟩ := hrel
      have hkb : (k : Int) ≤ 1000000 := by omega
      by_cases hlt : k < n1
      · have hk1 : k < xs.length := by rw [HL1.out]; exact hlt
        have hk2 : k < ys.length := by rw [HL2.out, ← HZ.out]; exact hlt
        have hlt2 : k < n2 := by rw [← HZ.out]; exact hlt
        obtain ⟨b1, o1, rfl, hb1, g0, g1, g2⟩ := (HA1.out.below' HW.out hB).at_ hlt
        obtain ⟨b2, o2, rfl, hb2, q0, q1, q2⟩ := (HA2.out.below' HW.out hB).at_ hlt2
        by_cases he : xs[k] = ys[k]
        · have HN := Lib.hid (take_eqD hk1 hk2 HT.out he)
          have hne := neq_dv (decide_eq_true he)
          clear he
          generalize xs[k] = d at *
          generalize ys[k] = e at *
          generalize bs d.name = N1 at *
          generalize bs d.value = V1 at *
          generalize d.has = H1 at *
          generalize bs e.name = N2 at *
          generalize bs e.value = V2 at *
          generalize e.has = H2 at *
          clear hk1 hk2
          go_wp2
          go_quiet (fail)
          go_wp2
          go_roundw
          case rel => exact ⟨k + 1, by omega, by go_num, Lib.hid (drewN_belD HW.out _), HN⟩
          case measure => simp [intOf]; omega
        · have HF : Hid (decide (xs = ys) = false) := by
            show _ = _
            refine decide_eq_false ?_
            intro e
            subst e
            exact he rfl
          have hne := neq_dv (decide_eq_false he)
          clear he
          generalize xs[k] = d at *
          generalize ys[k] = e at *
          generalize bs d.name = N1 at *
          generalize bs d.value = V1 at *
          generalize d.has = H1 at *
          generalize bs e.name = N2 at *
          generalize bs e.value = V2 at *
          generalize e.has = H2 at *
          clear hk1 hk2
          go_wp2
          go_quiet (fail)
          go_wp2
          go_ret
          exact ⟨ret_bool HF.out.symm, drewN_belD HW.out _⟩
      · have HF : Hid (decide (xs = ys) = true) := by
          have h := HT.out
          rw [List.take_of_length_le (by rw [HL1.out]; omega), List.take_of_length_le (by rw [HL2.out, ← HZ.out]; omega)] at h
          exact Lib.hid (decide_eq_true h)
        go_wp2
        go_ret
        exact ⟨ret_bool HF.out.symm, HW.out⟩
  · have hsz' : ((n1 : Int) != (n2 : Int)) = true := by simp; omega
    have HF : Hid (decide (xs = ys) = false) := by
      show _ = _
      refine decide_eq_false ?_
      intro e
      apply hsz
      rw [← HL1.out, ← HL2.out, e]
    clear hsz
    go_enter Try.func11, Try.ntmps11
    go_wp2
    go_ret
    exact ⟨ret_bool HF.out.symm, Below.refl _ _⟩

end Go.Proofs.Ytbpgkdhdooaigaa
