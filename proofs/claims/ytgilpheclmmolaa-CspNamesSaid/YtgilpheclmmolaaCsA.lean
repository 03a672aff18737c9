/-
  The program's parts of package csp: the iterator that it hands back.
-/
import Derived.Test.YtgilpheclmmolaaRnC
import Derived.Test.YtgilpheclmmolaaCt2
import Derived.Test.YtgilpheclmmolaaSplP
import Derived.Shelf.RegionOpen
import Derived.WalkKit
import Derived.OwnWalkIn
import Derived.TacticsInMore
import Derived.LoopNIn
import Derived.LoopIn
namespace Go.Proofs.Ytgilpheclmmolaa
open Go.RowKit Go.Shelf
attribute [local go_sem] Oper.semAt_some

theorem split_cut (c : UInt8) (l : List UInt8) : splitL c l = befL (isB c) l :: (if l.any (isB c) = true then splitL c ((fromL (isB c) l).drop 1) else []) := by
  have h1 := bef_from (isB c) l
  have hno : noB c (befL (isB c) l) := fun b hb => by have := bef_not (isB c) l b hb; simpa [isB] using this
  cases hf : fromL (isB c) l with
  | nil =>
    rw [hf, List.append_nil] at h1
    have hb : ∀ b ∈ l, isB c b = false := fun b hb => by rw [← h1] at hb; exact bef_not _ _ b hb
    rw [none_any hb, if_neg (by simp), h1]
    rw [h1] at hno
    exact splitL_one c l hno
  | cons b r =>
    have hb : b = c := by simpa [isB] using from_head (isB c) _ b r hf
    rw [hf, hb] at h1
    have ha : l.any (isB c) = true := by rw [any_isB, ← h1]; simp
    rw [ha, if_pos rfl, List.drop_succ_cons, List.drop_zero]
    have := splitL_cons c (befL (isB c) l) r hno
    rw [h1] at this
    exact this
theorem bef_len (p : UInt8 → Bool) (l : List UInt8) : (befL p l).length + (fromL p l).length = l.length := by
  have := congrArg List.length (bef_from p l)
  rw [List.length_append] at this
  omega
theorem cut_less {c : UInt8} {l : List UInt8} (h : l.any (isB c) = true) : ((fromL (isB c) l).drop 1).length < l.length := by
  have := bef_len (isB c) l
  rw [List.length_drop]
  cases hf : fromL (isB c) l with
  | nil =>
    have h1 := bef_from (isB c) l
    rw [hf, List.append_nil] at h1
    have hb : ∀ b ∈ l, isB c b = false := fun b hb => by rw [← h1] at hb; exact bef_not _ _ b hb
    rw [none_any hb] at h
    cases h
  | cons b r =>
    rw [hf] at this
    simp at this ⊢
    omega
/-- What is cut off, as strings of their own. -/
theorem cut_parts (c : UInt8) (s : ByteArray) (hs : s.size ≤ 1000000000) : ∃ (X Y : ByteArray) (q : Bool), bs (befL (isB c) (ls s)) = X ∧ bs ((fromL (isB c) (ls s)).drop 1) = Y ∧ (ls s).any (isB c) = q ∧ X.size ≤ 1000000000 ∧ Y.size ≤ 1000000000 ∧ (q = true → Y.size < s.size) ∧
    splitL c (ls s) = ls X :: (if q = true then splitL c (ls Y) else []) := by
  have hl := bef_len (isB c) (ls s)
  rw [ls_length] at hl
  refine ⟨_, _, _, rfl, rfl, rfl, by rw [bs_size]; omega, by rw [bs_size, List.length_drop]; omega, fun h => by have := cut_less h; rw [ls_length] at this; rw [bs_size]; exact this, ?_⟩
  rw [ls_bs, ls_bs]
  exact split_cut c (ls s)

theorem parts_any (s : ByteArray) (c : UInt8) (w : World) : Calls Try.prog 20 #[.string s, .string ⟨#[c]⟩] w fun e w' =>
    e = .returned (.func (.func 25) #[] #[.pointer (some ⟨w.heap.size, 0, none⟩), .pointer (some ⟨w.heap.size + 1, 0, none⟩)]) ∧
    w' = (w.alloc (.cells #[.string s] 9)).alloc (.cells #[.string ⟨#[c]⟩] 9) := by
  go_enter Try.func20, Try.ntmps20
  go_wp2
  go_ret
  exact ⟨rfl, rfl⟩

set_option maxRecDepth 100000 in
set_option maxHeartbeats 4000000 in
theorem parts_it (B : Nat) (c : UInt8) (s : ByteArray) (hs : s.size ≤ 1000000000) (W0 : World) (h1 : Boxed W0 B 9 (.string s)) (h2 : Boxed W0 (B + 1) 9 (.string ⟨#[c]⟩)) :
    SeqC Try.prog 25 #[.pointer (some ⟨B, 0, none⟩), .pointer (some ⟨B + 1, 0, none⟩)] (splitL c (ls s)) (fun k => k = B + 1) W0 := by
  intro l J Jx C0 hJ hJx hBd hK hY h0
  have hB1 : B + 1 < W0.heap.size ∧ ¬ C0 (B + 1) := hK _ rfl
  have hstd : ∀ {pre C W W'}, J pre C W → Below W.heap.size W W' → J pre C W' := fun hj hb => hJ.below hj hb
  refine (callsIn_wide (n := 0)).1 ?_
  refine callsIn_of_wp Try.func25 rfl trivial ?_ rfl
  simp only [Try.ntmps25, List.size_toArray, List.length_cons, List.length_nil, Nat.reduceAdd, Nat.reduceSub, Array.replicate_succ, Array.replicate_zero, List.push_toArray, List.append_toArray, List.nil_append, List.cons_append]
  have cB := h1.cell
  have cC := h2.cell
  obtain ⟨X0, Y0, q0, e1, e2, e3, z1, z2, _, e4⟩ := cut_parts c s hs
  have ccut := scut_any s c W0 hs
  unfold CutPost at ccut
  rw [e1, e2, e3] at ccut
  have HL := Lib.hid e4
  clear e1 e2 e3 e4
  gi_wp2_with fail
  refine ⟨trivial, rfl, ?_⟩
  refine (callsIn_wide.2 ccut).mono ?_
  rintro e w1 ⟨rfl, hb1⟩
  have hj1 := hstd h0 hb1
  have b2 : Boxed w1 (B + 1) 9 (.string ⟨#[c]⟩) := (hb1.block _ hB1.1).trans h2
  have hN := hB1.2
  clear cB cC h0 hb1 hB1 ccut
  gi_wp2
  gi_loopw [4, 5, 6] (fun x y q wr => ∃ (pre : List (List UInt8)) (C : Nat → Prop) (X Y : ByteArray) (f : Bool), x = .string X ∧ y = .string Y ∧ q = .bool f ∧ X.size ≤ 1000000000 ∧ Y.size ≤ 1000000000 ∧ Hid (pre ++ ls X :: (if f = true then splitL c (ls Y) else []) = splitL c (ls s)) ∧ J pre C wr ∧ ¬ C (B + 1) ∧ Boxed wr (B + 1) 9 (.string ⟨#[c]⟩))
    (fun _ y q _ => match y, q with | .string Y, .bool true => Y.size + 1 | _, _ => 0)
  case atStart => exact ⟨[], C0, X0, Y0, q0, rfl, rfl, rfl, z1, z2, Lib.hid HL.out.symm, hj1, hN, b2⟩
  case round =>
    obtain ⟨pre, C, X, Y, f, rfl, rfl, rfl, hx, hy, HP, hj, hn, bx⟩ := hrel
    have hpre : pre ++ [ls X] <+: splitL c (ls s) := ⟨_, by rw [List.append_assoc]; exact HP.out⟩
    obtain ⟨fn, tmps, assign, body, hyy, hR⟩ := hY pre X C wr hx hpre hj
    have hbl := bx.lt
    gi_wp2
    refine ⟨rfl, ?_⟩
    refine (round_wide hR).mono ?_
    rintro e W3 ⟨C', hg, (⟨rfl, hJ3⟩ | ⟨rfl, hJx3⟩)⟩
    · cases f with
      | false =>
        have HF : Hid (pre ++ [ls X] = splitL c (ls s)) := Lib.hid (by have := HP.out; simpa using this)
        gi_wp2
        go_end0
        exact ⟨⟨_, rfl⟩, C', .inl (HF.out ▸ hJ3)⟩
      | true =>
        have b3 : Boxed W3 (B + 1) 9 (.string ⟨#[c]⟩) := grow_box hg bx hn
        have hn3 := hg.not hbl hn
        have k3 := b3.cell
        obtain ⟨X1, Y1, q1, e1, e2, e3, z1, z2, z3, e4⟩ := cut_parts c Y hy
        have ccut := fun W => scut_any Y c W hy
        unfold CutPost at ccut
        simp only [e1, e2, e3] at ccut
        have HN : Hid ((pre ++ [ls X]) ++ ls X1 :: (if q1 = true then splitL c (ls Y1) else []) = splitL c (ls s)) := by
          refine Lib.hid ?_
          have := HP.out
          rw [if_pos rfl, e4] at this
          rw [← this]
          simp
        have HZ := Lib.hid z3
        clear e1 e2 e3 e4 z3 hR hyy
        gi_wp2_with fail
        refine ⟨trivial, rfl, ?_⟩
        refine (callsIn_wide.2 (ccut _)).mono ?_
        rintro e w4 ⟨rfl, hb4⟩
        gi_wp2
        go_roundw
        case rel => exact ⟨pre ++ [ls X], C', X1, Y1, q1, rfl, rfl, rfl, z1, z2, HN, hstd hJ3 hb4, hn3, (hb4.block _ b3.lt).trans b3⟩
        case measure =>
          cases q1 with
          | false => simp
          | true => have := HZ.out rfl; simp; omega
    · cases f with
      | false =>
        gi_wp2
        go_end0
        exact ⟨⟨_, rfl⟩, C', .inr ⟨_, hpre, hJx3⟩⟩
      | true =>
        gi_wp2
        go_end0
        exact ⟨⟨_, rfl⟩, C', .inr ⟨_, hpre, hJx3⟩⟩

end Go.Proofs.Ytgilpheclmmolaa
