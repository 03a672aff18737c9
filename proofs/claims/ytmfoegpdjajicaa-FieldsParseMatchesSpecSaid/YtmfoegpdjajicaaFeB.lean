/-
  The program's lines of package fields: the iterator that it hands back.
-/
import Derived.Test.YtmfoegpdjajicaaRnD
import Derived.Test.YtmfoegpdjajicaaFeP
import Derived.Test.YtmfoegpdjajicaaCt2
import Derived.Test.YtmfoegpdjajicaaRfTk
import Derived.Shelf.RegionOpen
import Derived.WalkKit
import Derived.OwnWalkIn
import Derived.TacticsInMore
import Derived.LoopNIn
import Derived.LoopIn
namespace Go.Proofs.Ytmfoegpdjajicaa
open Go.RowKit Go.Shelf
attribute [local go_sem] Oper.semAt_some

theorem trim_st13 (l : List UInt8) : Lib.trimSuffix l [13] = st13 l := by
  unfold Lib.trimSuffix Lib.hasSuffix
  by_cases h : l.getLast? = some 13
  · obtain ⟨m, rfl⟩ := List.getLast?_eq_some_iff.1 h
    rw [st13_snoc]
    have : ([13] : List UInt8).isSuffixOf (m ++ [13]) = true := by
      rw [List.isSuffixOf_iff_suffix]
      exact ⟨m, rfl⟩
    rw [if_pos this]
    simp
  · have hn : ¬ ([13] : List UInt8).isSuffixOf l = true := by
      rw [List.isSuffixOf_iff_suffix]
      rintro ⟨m, rfl⟩
      exact h (by simp)
    rw [if_neg hn]
    unfold st13
    rw [if_neg h]
theorem tsuf_any (s : ByteArray) (w : World) (hs : s.size ≤ 1000000000) : Calls Try.prog 39 #[.string s, .string ⟨#[13]⟩] w fun e w' => e = .returned (.string (bs (st13 (ls s)))) ∧ w' = w := by
  have c := Any.strings_TrimSuffix Try.lays102 s ⟨#[13]⟩ w (by omega)
  have HE : (⟨(Lib.trimSuffix s.data.toList (⟨#[13]⟩ : ByteArray).data.toList).toArray⟩ : ByteArray) = bs (st13 (ls s)) := by rw [show Lib.trimSuffix s.data.toList (⟨#[13]⟩ : ByteArray).data.toList = st13 (ls s) from trim_st13 (ls s)]; rfl
  rw [HE] at c
  exact c
theorem st13_len (l : List UInt8) : (st13 l).length ≤ l.length := by
  unfold st13
  split
  · rw [List.length_dropLast]; omega
  · exact Nat.le_refl _
/-- What is cut off, as strings of their own. -/
theorem line_cut10 (s : ByteArray) (hs : s.size ≤ 1000000000) : ∃ (X Y Z : ByteArray) (q : Bool), bs (befL (isB 10) (ls s)) = X ∧ bs ((fromL (isB 10) (ls s)).drop 1) = Y ∧ (ls s).any (isB 10) = q ∧ bs (st13 (ls X)) = Z ∧ X.size ≤ 1000000000 ∧ Z.size ≤ 1000000000 ∧ Y.size ≤ 1000000000 ∧ (s.size ≠ 0 → Y.size < s.size ∧ linesL (ls s) = (ls Z, q) :: linesL (ls Y)) := by
  have hl := congrArg List.length (bef_from (isB 10) (ls s))
  rw [List.length_append, ls_length] at hl
  have h3 := st13_len (befL (isB 10) (ls s))
  refine ⟨_, _, _, _, rfl, rfl, rfl, rfl, by rw [bs_size]; omega, by rw [bs_size, ls_bs]; omega, by rw [bs_size, List.length_drop]; omega, fun h0 => ?_⟩
  have hne : ls s ≠ [] := fun e => h0 (by rw [← ls_length, e]; rfl)
  rw [bs_size, List.length_drop, ls_bs, ls_bs, ls_bs, linesL_cons hne]
  exact ⟨by omega, rfl⟩

theorem lines_any (s : ByteArray) (w : World) : Calls Try.prog 22 #[.string s] w fun e w' =>
    e = .returned (.func (.func 37) #[] #[.pointer (some ⟨w.heap.size, 0, none⟩)]) ∧ w' = w.alloc (.cells #[.string s] 9) := by
  go_enter Try.func22, Try.ntmps22
  go_wp2
  go_ret
  exact ⟨rfl, rfl⟩

set_option maxRecDepth 100000 in
set_option maxHeartbeats 4000000 in
theorem lines_it (B : Nat) (s : ByteArray) (hs : s.size ≤ 1000000000) (W0 : World) (h1 : Boxed W0 B 9 (.string s)) :
    SeqD Try.prog 37 #[.pointer (some ⟨B, 0, none⟩)] (linesL (ls s)) (fun _ => False) W0 := by
  intro l J Jx C0 hJ hJx hBd hK hY h0
  have hstd : ∀ {pre C W W'}, J pre C W → Below W.heap.size W W' → J pre C W' := fun hj hb => hJ.below hj hb
  refine (callsIn_wide (n := 0)).1 ?_
  refine callsIn_of_wp Try.func37 rfl trivial ?_ rfl
  simp only [Try.ntmps37, List.size_toArray, List.length_cons, List.length_nil, Nat.reduceAdd, Nat.reduceSub, Array.replicate_succ, Array.replicate_zero, List.push_toArray, List.append_toArray, List.nil_append, List.cons_append]
  have cB := h1.cell
  gi_wp2
  clear cB
  gi_loopw [3] (fun x wr => ∃ (pre : List (List UInt8 × Bool)) (C : Nat → Prop) (X : ByteArray), x = .string X ∧ X.size ≤ 1000000000 ∧ Hid (pre ++ linesL (ls X) = linesL (ls s)) ∧ J pre C wr)
    (fun x _ => match x with | .string X => X.size | _ => 0)
  case atStart => exact ⟨[], C0, s, rfl, hs, Lib.hid rfl, h0⟩
  case round =>
    obtain ⟨pre, C, X, rfl, hx, HP, hj⟩ := hrel
    have hq := nil_toList X
    by_cases hz : X.size = 0
    · rw [decide_eq_true hz] at hq
      have HF : Hid (pre = linesL (ls s)) := Lib.hid (by
        have := HP.out
        have h0 : ls X = [] := List.eq_nil_of_length_eq_zero (by rw [ls_length]; exact hz)
        rw [h0, linesL_nil, List.append_nil] at this
        exact this)
      have hq' : (X.toList != ([] : List UInt8)) = false := by rw [bne, hq]; rfl
      gi_wp2
      go_end0
      exact ⟨⟨_, rfl⟩, C, .inl (HF.out ▸ hj)⟩
    · rw [decide_eq_false hz] at hq
      have hq' : (X.toList != ([] : List UInt8)) = true := by rw [bne, hq]; rfl
      obtain ⟨X1, Y1, Z1, q1, e1, e2, e3, e5, z1, z2, z3, e4⟩ := line_cut10 X hx
      obtain ⟨z4, e4⟩ := e4 hz
      have ccut := fun W => scut_any X 10 W hx
      unfold CutPost at ccut
      simp only [e1, e2, e3] at ccut
      have csuf := fun W => tsuf_any X1 W z1
      simp only [e5] at csuf
      have HN : Hid ((pre ++ [(ls Z1, q1)]) ++ linesL (ls Y1) = linesL (ls s)) := Lib.hid (by
        have := HP.out
        rw [e4] at this
        rw [← this]
        simp)
      have hpre : pre ++ [(ls Z1, q1)] <+: linesL (ls s) := ⟨_, HN.out⟩
      clear e1 e2 e3 e4 e5 HP
      gi_wp2_with fail
      refine ⟨trivial, rfl, ?_⟩
      refine (callsIn_wide.2 (ccut _)).mono ?_
      rintro e w1 ⟨rfl, hb1⟩
      have hj1 := hstd hj hb1
      clear ccut hj hb1
      gi_wp2_with fail
      refine ⟨trivial, rfl, ?_⟩
      refine (callsIn_wide.2 (csuf _)).mono ?_
      rintro e w2 ⟨rfl, rfl⟩
      obtain ⟨fn, tmps, assign, body, hyy, hR⟩ := hY pre Z1 q1 C _ z2 hpre hj1
      gi_wp2_with fail
      refine ⟨rfl, ?_⟩
      refine (round_wide hR).mono ?_
      rintro e W3 ⟨C', hg, (⟨rfl, hJ3⟩ | ⟨rfl, hJx3⟩)⟩
      · gi_wp2
        go_roundw
        case rel => exact ⟨pre ++ [(ls Z1, q1)], C', Y1, rfl, z3, HN, hJ3⟩
        case measure => simp; omega
      · gi_wp2
        (try simp only [Exit.inBlock, Exit.then])
        refine bodyPost_ret (results_none rfl _ _ _) rfl ?_
        exact ⟨⟨_, rfl⟩, C', .inr ⟨_, hpre, hJx3⟩⟩

end Go.Proofs.Ytmfoegpdjajicaa
