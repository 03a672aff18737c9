/-
Lists of bytes cut at the first byte of a kind. No program.
strings.Cut at a text of one byte.
The program's Supers of package host: the iterators that it hands back.
The statements' list of the superdomains that are yielded.
The reference's Labels and Covers of layer 14.
The reference's Supers of layer 14.
Contract of the helper Short of the statements (package hstsstorekeep).
-/
import Derived.Test.YtpccpgihldpiiaaGreatDoorB00
import Derived.Lib.Bytealg
import Derived.Test.YtpccpgihldpiiaaGreatDoorB02
import Derived.Test.YtpccpgihldpiiaaGreatDoorShelf
import Derived.Shelf.RegionOpen
import Derived.WalkKit
import Derived.BigQuiet
import Derived.Deep.QuietTactic
import Derived.Test.YtpccpgihldpiiaaGreatDoorB12
import Derived.Test.YtpccpgihldpiiaaGreatDoorB08
import Derived.Test.YtpccpgihldpiiaaGreatDoorB20
import Derived.Test.YtpccpgihldpiiaaGreatDoorB11
import Derived.Test.YtpccpgihldpiiaaGreatDoorB29
import Derived.Test.YtpccpgihldpiiaaGreatDoorRows
import Derived.WalkSmall
namespace Go.Proofs.YtpccpgihldpiiaaGreatDoor
section
open Go.RowKit

/-- What stands before the first byte of a kind, and what stands from it on. -/
def befL (p : UInt8 → Bool) (l : List UInt8) : List UInt8 := l.takeWhile fun b => !p b
def fromL (p : UInt8 → Bool) (l : List UInt8) : List UInt8 := l.dropWhile fun b => !p b
def isB (c : UInt8) (b : UInt8) : Bool := b == c
theorem bef_from (p : UInt8 → Bool) (l : List UInt8) : befL p l ++ fromL p l = l := List.takeWhile_append_dropWhile
theorem bef_not (p : UInt8 → Bool) : ∀ (l : List UInt8), ∀ b ∈ befL p l, p b = false
  | [], b, h => by cases h
  | a :: l, b, h => by
    unfold befL at h
    rw [List.takeWhile_cons] at h
    split at h
    · rename_i ha
      rcases List.mem_cons.1 h with rfl | h
      · simpa using ha
      · exact bef_not p l b h
    · cases h
theorem from_head (p : UInt8 → Bool) : ∀ (l : List UInt8) (b : UInt8) (r : List UInt8), fromL p l = b :: r → p b = true
  | [], b, r, h => by cases h
  | a :: l, b, r, h => by
    unfold fromL at h
    rw [List.dropWhile_cons] at h
    split at h
    · exact from_head p l b r h
    · rename_i ha
      injection h with h1 h2
      rw [← h1]
      simpa using ha
theorem bef_nil {p : UInt8 → Bool} {l : List UInt8} (h : ∀ b ∈ l, p b = false) : befL p l = l ∧ fromL p l = [] := by
  have h1 := bef_from p l
  have h2 : fromL p l = [] := by
    cases hf : fromL p l with
    | nil => rfl
    | cons b r =>
      have := from_head p l b r hf
      have hm : b ∈ l := by rw [← h1, hf]; simp
      rw [h b hm] at this
      cases this
  rw [h2, List.append_nil] at h1
  exact ⟨h1, h2⟩
theorem bef_app {p : UInt8 → Bool} {a b : List UInt8} (ha : ∀ x ∈ a, p x = false) (c : UInt8) (r : List UInt8) (hb : b = c :: r) (hc : p c = true) : befL p (a ++ b) = a ∧ fromL p (a ++ b) = b := by
  subst hb
  induction a with
  | nil =>
    unfold befL fromL
    rw [List.nil_append, List.takeWhile_cons, List.dropWhile_cons, if_neg (by rw [hc]; simp), if_neg (by rw [hc]; simp)]
    exact ⟨rfl, rfl⟩
  | cons x a ih =>
    have hx := ha x (by simp)
    obtain ⟨i1, i2⟩ := ih (fun y hy => ha y (by simp [hy]))
    unfold befL fromL at *
    rw [List.cons_append, List.takeWhile_cons, List.dropWhile_cons, if_pos (by rw [hx]; rfl), if_pos (by rw [hx]; rfl), i1, i2]
    exact ⟨rfl, rfl⟩
theorem any_isB {c : UInt8} {l : List UInt8} : l.any (isB c) = true ↔ c ∈ l := by
  rw [List.any_eq_true]
  constructor
  · rintro ⟨x, hx, h⟩
    have : x = c := by simpa [isB] using h
    rwa [← this]
  · exact fun h => ⟨c, h, by simp [isB]⟩
theorem any_none {p : UInt8 → Bool} {l : List UInt8} (h : l.any p = false) : ∀ b ∈ l, p b = false := by
  intro b hb
  cases hp : p b with
  | false => rfl
  | true =>
    have : l.any p = true := List.any_eq_true.2 ⟨b, hb, hp⟩
    rw [h] at this
    cases this
theorem none_any {p : UInt8 → Bool} {l : List UInt8} (h : ∀ b ∈ l, p b = false) : l.any p = false := by
  cases ha : l.any p with
  | false => rfl
  | true =>
    obtain ⟨x, hx, hp⟩ := List.any_eq_true.1 ha
    rw [h x hx] at hp
    cases hp
theorem mem_bef {p : UInt8 → Bool} {l : List UInt8} {b : UInt8} (h : b ∈ befL p l) : b ∈ l := by
  rw [← bef_from p l]
  exact List.mem_append_left _ h
theorem mem_from {p : UInt8 → Bool} {l : List UInt8} {b : UInt8} (h : b ∈ fromL p l) : b ∈ l := by
  rw [← bef_from p l]
  exact List.mem_append_right _ h
theorem indexByte_cut (c : UInt8) : ∀ l : List UInt8, (Lib.indexByte l c = -1 ∧ befL (isB c) l = l ∧ fromL (isB c) l = []) ∨ ∃ r, fromL (isB c) l = c :: r ∧ Lib.indexByte l c = ((befL (isB c) l).length : Int)
  | [] => .inl ⟨rfl, rfl, rfl⟩
  | b :: l => by
    by_cases hb : b = c
    · subst hb
      right
      refine ⟨l, ?_, ?_⟩
      · unfold fromL
        rw [List.dropWhile_cons, if_neg (by simp [isB])]
      · have e : befL (isB b) (b :: l) = [] := by
          unfold befL
          rw [List.takeWhile_cons, if_neg (by simp [isB])]
        rw [e, Lib.indexByte, if_pos (by simp)]
        rfl
    · have hb2 : (b == c) = false := by simpa using hb
      have e1 : befL (isB c) (b :: l) = b :: befL (isB c) l := by
        unfold befL
        rw [List.takeWhile_cons, if_pos (by simp [isB, hb])]
      have e2 : fromL (isB c) (b :: l) = fromL (isB c) l := by
        unfold fromL
        rw [List.dropWhile_cons, if_pos (by simp [isB, hb])]
      rw [e1, e2]
      rcases indexByte_cut c l with ⟨h1, h2, h3⟩ | ⟨r, h1, h2⟩
      · left
        refine ⟨?_, by rw [h2], h3⟩
        rw [Lib.indexByte, hb2, h1]; rfl
      · right
        refine ⟨r, h1, ?_⟩
        rw [Lib.indexByte, hb2, h2]
        have h4 : (((befL (isB c) l).length : Int) == -1) = false := by
          rw [beq_eq_false_iff_ne]
          omega
        rw [h4]
        simp
end

section
open Go.RowKit Go.Shelf

theorem slx1_any (s : ByteArray) (c : UInt8) (w : World) : Calls Tryz.prog 142 #[.string s, .string ⟨#[c]⟩] w fun e w' => e = .returned (.int .i64 (Lib.indexByte (ls s) c)) ∧ w' = w :=
  Any.stringslite_Index_one { Tryz.lays143 with } s c w
theorem ls_from9 (s : ByteArray) (k : Nat) : ls (s.extract k s.size) = (ls s).drop k := by
  rw [ls_extract, List.take_of_length_le]
  rw [List.length_drop, ls_length]
  exact Nat.le_refl _
/-- What strings.Cut answers. -/
def CutPost (s : ByteArray) (c : UInt8) (w : World) (e : Ending) (w' : World) : Prop :=
  e = .returned (.tuple #[.string (bs (befL (isB c) (ls s))), .string (bs ((fromL (isB c) (ls s)).drop 1)), .bool ((ls s).any (isB c))]) ∧ Below w.heap.size w w'

set_option maxHeartbeats 1000000 in
theorem slcut_any (s : ByteArray) (c : UInt8) (w : World) (hs : s.size ≤ 1000000000) : Calls Tryz.prog 100 #[.string s, .string ⟨#[c]⟩] w (CutPost s c w) := by
  have ci := fun W => slx1_any s c W
  unfold CutPost
  have hbf := bef_from (isB c) (ls s)
  rcases indexByte_cut c (ls s) with ⟨h1, h2, h3⟩ | ⟨r, h1, h2⟩
  · simp only [h1] at ci
    have ea : (ls s).any (isB c) = false := by
      refine none_any fun b hb => ?_
      rw [← h2] at hb
      exact bef_not _ _ b hb
    rw [h2, h3, ea, bs_ls]
    clear h1 h2 h3 ea hbf
    go_enter Tryz.func100, Tryz.ntmps100
    go_wp2_with (go_at_call 142; refine (ci _).mono ?_; rintro e w1 ⟨rfl, rfl⟩)
    go_ret3
    exact ⟨rfl, Below.refl _ _⟩
  · have ea : (ls s).any (isB c) = true := by
      rw [any_isB, ← hbf, h1]
      simp
    have hz : (befL (isB c) (ls s)).length + 1 ≤ s.size := by
      have := congrArg List.length hbf
      rw [h1, List.length_append, List.length_cons, ls_length] at this
      omega
    have e1 : ls (s.extract 0 (befL (isB c) (ls s)).length) = befL (isB c) (ls s) := by
      rw [ls_extract, List.drop_zero, Nat.sub_zero]
      have : (ls s).take (befL (isB c) (ls s)).length = (befL (isB c) (ls s) ++ fromL (isB c) (ls s)).take (befL (isB c) (ls s)).length := by rw [hbf]
      rw [this, List.take_left]
    have e2 : ls (s.extract ((befL (isB c) (ls s)).length + 1) s.size) = (fromL (isB c) (ls s)).drop 1 := by
      rw [ls_from9]
      have : (ls s).drop ((befL (isB c) (ls s)).length + 1) = (befL (isB c) (ls s) ++ fromL (isB c) (ls s)).drop ((befL (isB c) (ls s)).length + 1) := by rw [hbf]
      rw [this, ← List.drop_drop, List.drop_left]
    rw [ea]
    have f1 : s.extract 0 (befL (isB c) (ls s)).length = bs (befL (isB c) (ls s)) := by rw [← e1, bs_ls, e1]
    have f2 : s.extract ((befL (isB c) (ls s)).length + 1) s.size = bs ((fromL (isB c) (ls s)).drop 1) := by rw [← e2, bs_ls]
    rw [← f1, ← f2]
    simp only [h2] at ci
    generalize (befL (isB c) (ls s)).length = k at *
    clear h1 h2 ea hbf e1 e2 f1 f2
    have g1 : (k : Int) + 1 ≤ (s.size : Int) := by omega
    go_enter Tryz.func100, Tryz.ntmps100
    go_wp2_with (go_at_call 142; refine (ci _).mono ?_; rintro e w1 ⟨rfl, rfl⟩)
    go_quiet (fail)
    go_wp2
    go_ret3
    exact ⟨rfl, below_drewN (Below.refl _ _) _⟩
theorem scut_any (s : ByteArray) (c : UInt8) (w : World) (hs : s.size ≤ 1000000000) : Calls Tryz.prog 64 #[.string s, .string ⟨#[c]⟩] w (CutPost s c w) := by
  have ci := slcut_any s c w hs
  unfold CutPost at ci ⊢
  generalize bs (befL (isB c) (ls s)) = X at *
  generalize bs ((fromL (isB c) (ls s)).drop 1) = Y at *
  generalize (ls s).any (isB c) = q at *
  go_enter Tryz.func64, Tryz.ntmps64
  go_wp2_with (go_at_call 100; refine ci.mono ?_; rintro e w1 ⟨rfl, hb⟩)
  go_ret3
  exact ⟨rfl, hb⟩
end

section
open Go.RowKit Go.Shelf
attribute [local go_sem] Oper.semAt_some

/-- What is handed back yields the list L, without turning anything. -/
def SupIt (gf : Nat) (lb : Array Value) (Kr : Nat → Prop) (L : List (List UInt8)) (w : World) : Prop :=
  (∀ args W, (callFunc gf args).run Tryz.prog W = .ok (.enter gf args) W) ∧ (∀ r, Kr r → r < w.heap.size) ∧
  ∀ n W0, (∀ r, Kr r → W0.heap[r]? = w.heap[r]?) → SeqT Fence.wide n Tryz.prog gf lb (fun x : St9 => .string x.1) (fun _ => False) Kr (fun xs => xs.map (fun x => ls x.1) = L) (fun pre => pre.map (fun x => ls x.1) <+: L) L.length W0
theorem SupIt.later {gf : Nat} {lb : Array Value} {Kr : Nat → Prop} {L : List (List UInt8)} {w w' : World} (h : SupIt gf lb Kr L w) (hb : Below w.heap.size w w') : SupIt gf lb Kr L w' :=
  ⟨h.1, fun r hr => Nat.lt_of_lt_of_le (h.2.1 r hr) hb.size, fun n W0 h0 => h.2.2 n W0 fun r hr => (h0 r hr).trans (hb.block r (h.2.1 r hr))⟩
def SupsPost (L : List (List UInt8)) (w : World) (e : Ending) (w' : World) : Prop :=
  ∃ gf lb Kr, e = .returned (.func (.func gf) #[] lb) ∧ SupIt gf lb Kr L w' ∧ (∀ r, Kr r → w.heap.size ≤ r) ∧ Below w.heap.size w w'

/-- The parts behind the dots. -/
def sufL : List UInt8 → List (List UInt8)
  | [] => []
  | b :: r => if b = 46 then r :: sufL r else sufL r
theorem suf_none {l : List UInt8} (h : ∀ b ∈ l, isB 46 b = false) : sufL l = [] := by
  induction l with
  | nil => rfl
  | cons b r ih =>
    have hb : b ≠ 46 := by have := h b (by simp); simpa [isB] using this
    rw [sufL, if_neg hb]
    exact ih fun c hc => h c (by simp [hc])
theorem suf_app {a : List UInt8} (r : List UInt8) (h : ∀ b ∈ a, isB 46 b = false) : sufL (a ++ 46 :: r) = r :: sufL r := by
  induction a with
  | nil => rw [List.nil_append, sufL, if_pos rfl]
  | cons b a ih =>
    have hb : b ≠ 46 := by have := h b (by simp); simpa [isB] using this
    rw [List.cons_append, sufL, if_neg hb]
    exact ih fun c hc => h c (by simp [hc])
theorem suf_vn : ∀ (l : List UInt8), (∀ x r, l = x ++ 46 :: r → vnL r = true) → supGo l = sufL l
  | [], _ => rfl
  | b :: r, h => by
    have ih := suf_vn r (fun x t e => h (b :: x) t (by rw [e]; rfl))
    rw [supGo, sufL, ih]
    by_cases hb : b = 46
    · rw [if_pos ⟨hb, h [] r (by rw [hb]; rfl)⟩, if_pos hb]
    · rw [if_neg (fun hc => hb hc.1), if_neg hb]
theorem supers_suf {l : List UInt8} (h : vnL l = true) : supersL l = sufL l := by
  unfold supersL
  rw [if_pos h]
  refine suf_vn l fun x r e => ?_
  rw [vn_iff] at h ⊢
  rw [e] at h
  exact h.suffix
theorem suf_cut (l : List UInt8) : (l.any (isB 46) = false ∧ sufL l = []) ∨ (l.any (isB 46) = true ∧ sufL l = (fromL (isB 46) l).drop 1 :: sufL ((fromL (isB 46) l).drop 1)) := by
  have h1 := bef_from (isB 46) l
  cases hf : fromL (isB 46) l with
  | nil =>
    left
    rw [hf, List.append_nil] at h1
    have hb : ∀ b ∈ l, isB 46 b = false := fun b hb => by rw [← h1] at hb; exact bef_not _ _ b hb
    exact ⟨none_any hb, suf_none hb⟩
  | cons b r =>
    right
    have hb : b = 46 := by simpa [isB] using from_head (isB 46) _ b r hf
    rw [hf, hb] at h1
    refine ⟨?_, ?_⟩
    · rw [any_isB, ← h1]; simp
    · rw [List.drop_succ_cons, List.drop_zero]
      have := suf_app r (bef_not (isB 46) l)
      rw [h1] at this
      exact this
theorem from_len (p : UInt8 → Bool) (l : List UInt8) : (fromL p l).length ≤ l.length := by
  have := congrArg List.length (bef_from p l)
  rw [List.length_append] at this
  omega

/-- Nothing is yielded for what is no canonical name. -/
theorem sup_none (n : Nat) (W0 : World) (L : List (List UInt8)) (hL : L = []) : SeqT Fence.wide n Tryz.prog 61 #[] (fun x : St9 => .string x.1) (fun _ => False) (fun _ => False) (fun xs => xs.map (fun x => ls x.1) = L) (fun pre => pre.map (fun x => ls x.1) <+: L) L.length W0 := by
  subst hL
  intro l J Jx hJ hJx hY h0
  refine callsIn_of_wp Tryz.func61 rfl trivial ?_ rfl
  simp only [Tryz.ntmps61, List.size_toArray, List.length_cons, List.length_nil, Nat.reduceAdd, Nat.reduceSub, Array.replicate_succ, Array.replicate_zero, List.push_toArray, List.append_toArray, List.nil_append, List.cons_append]
  gi_wp2
  go_end0
  exact ⟨⟨_, rfl⟩, .inl ⟨[], rfl, h0⟩⟩

set_option maxRecDepth 100000 in
set_option maxHeartbeats 4000000 in
theorem sup_it (n : Nat) (B : Nat) (s : ByteArray) (hs : s.size ≤ 1000000000) (W0 : World) (h1 : Boxed W0 B 9 (.string s)) :
    SeqT Fence.wide n Tryz.prog 63 #[.pointer (some ⟨B, 0, none⟩)] (fun x : St9 => .string x.1) (fun _ => False) (fun r => r = B)
      (fun xs => xs.map (fun x => ls x.1) = sufL (ls s)) (fun pre => pre.map (fun x => ls x.1) <+: sufL (ls s)) (sufL (ls s)).length W0 := by
  intro l J Jx hJ hJx hY h0
  have ku : ∀ {pre : List St9} {W W' : World}, J pre W → Below W.heap.size W W' → J pre W' := fun hj hb => hJ _ _ _ none hj ⟨hb.os, hb.tape, hb.output, hb.size, fun k hk _ => hb.block k hk⟩ (fun r e => by cases e)
  refine callsIn_of_wp Tryz.func63 rfl trivial ?_ rfl
  simp only [Tryz.ntmps63, List.size_toArray, List.length_cons, List.length_nil, Nat.reduceAdd, Nat.reduceSub, Array.replicate_succ, Array.replicate_zero, List.push_toArray, List.append_toArray, List.nil_append, List.cons_append]
  have cB := h1.cell
  have len : ∀ (pre : List St9) (x : List UInt8) (t : List (List UInt8)), pre.map (fun x : St9 => ls x.1) ++ x :: t = sufL (ls s) → pre.length < (sufL (ls s)).length := by
    intro pre x t h
    have e := congrArg List.length h
    rw [List.length_append, List.length_map, List.length_cons] at e
    omega
  gi_wp2_with fail
  refine ⟨trivial, (fun h => by cases h), ?_⟩
  refine (callsIn_wide.2 (scut_any s 46 W0 hs)).mono ?_
  rintro e w1 ⟨rfl, hb1⟩
  have hj1 := ku h0 hb1
  have hX0 : (bs ((fromL (isB 46) (ls s)).drop 1)).size ≤ 1000000000 := by
    rw [bs_size, List.length_drop]
    have := from_len (isB 46) (ls s)
    rw [ls_length] at this
    omega
  have hq0 := suf_cut (ls s)
  have HQ0 : Hid (∃ (q : Bool) (X : ByteArray), (ls s).any (isB 46) = q ∧ bs ((fromL (isB 46) (ls s)).drop 1) = X ∧ X.size ≤ 1000000000 ∧ sufL (ls s) = if q = true then ls X :: sufL (ls X) else []) := by
    refine Lib.hid ⟨_, _, rfl, rfl, hX0, ?_⟩
    rw [ls_bs]
    rcases hq0 with ⟨e1, e2⟩ | ⟨e1, e2⟩
    · rw [e1, e2]; rfl
    · rw [e1, if_pos rfl]; exact e2
  clear hX0 hq0
  obtain ⟨q0, X0, e1, e2, z0, e3⟩ := HQ0.out
  rw [e1, e2]
  have HE := Lib.hid e3
  clear e1 e2 e3 HQ0 cB h0 hb1
  gi_wp2
  gi_loopw [4, 5] (fun x q wr => ∃ (pre : List St9) (X : ByteArray) (f : Bool), x = .string X ∧ q = .bool f ∧ X.size ≤ 1000000000 ∧ Hid (pre.map (fun x : St9 => ls x.1) ++ (if f = true then ls X :: sufL (ls X) else []) = sufL (ls s)) ∧ J pre wr)
    (fun x q _ => match x, q with | .string X, .bool true => X.size + 1 | _, _ => 0)
  case atStart => exact ⟨[], X0, q0, rfl, rfl, z0, Lib.hid HE.out.symm, hj1⟩
  case round =>
    obtain ⟨pre, X, f, rfl, rfl, hz, HP, hj⟩ := hrel
    cases f with
    | false =>
      have hfin : pre.map (fun x : St9 => ls x.1) = sufL (ls s) := by
        have := HP.out
        rw [if_neg (by simp), List.append_nil] at this
        exact this
      have HF := Lib.hid hfin
      clear hfin
      gi_wp2
      refine ⟨trivial, ?_⟩
      gi_wp2
      refine ⟨(fun _ h => by cases h), ?_⟩
      gi_wp2
      go_end0
      exact ⟨⟨_, rfl⟩, .inl ⟨_, HF.out, hj⟩⟩
    | true =>
      have hP := HP.out
      rw [if_pos rfl] at hP
      have hl := len pre _ _ hP
      have cc := fun W => cl_any X W hz
      have cq := fun W => scut_any X 46 W hz
      have hpre : (pre ++ [(⟨X, hz⟩ : St9)]).map (fun x : St9 => ls x.1) <+: sufL (ls s) := ⟨sufL (ls X), by rw [← hP]; simp⟩
      have hX1 : (bs ((fromL (isB 46) (ls X)).drop 1)).size ≤ 1000000000 := by
        rw [bs_size, List.length_drop]
        have := from_len (isB 46) (ls X)
        rw [ls_length] at this
        omega
      have hq0 := suf_cut (ls X)
      have hst : (ls X).any (isB 46) = true → (bs ((fromL (isB 46) (ls X)).drop 1)).size < X.size := by
        intro h
        rw [bs_size, List.length_drop]
        have h1 := from_len (isB 46) (ls X)
        rw [ls_length] at h1
        have : X.size ≠ 0 := by
          intro h0
          have : ls X = [] := List.length_eq_zero_iff.1 (by rw [ls_length]; exact h0)
          rw [this] at h
          cases h
        omega
      have HQ0 : Hid (∃ (q : Bool) (Y : ByteArray), (ls X).any (isB 46) = q ∧ bs ((fromL (isB 46) (ls X)).drop 1) = Y ∧ Y.size ≤ 1000000000 ∧ (q = true → Y.size < X.size) ∧ sufL (ls X) = if q = true then ls Y :: sufL (ls Y) else []) := by
        refine Lib.hid ⟨_, _, rfl, rfl, hX1, hst, ?_⟩
        rw [ls_bs]
        rcases hq0 with ⟨e1, e2⟩ | ⟨e1, e2⟩
        · rw [e1, e2]; rfl
        · rw [e1, if_pos rfl]; exact e2
      clear hX1 hq0 hst
      unfold CutPost at cq
      obtain ⟨q1, Y, e1, e2, z1, z2, e3⟩ := HQ0.out
      simp only [e1, e2] at cq
      have HN : Hid ((pre ++ [(⟨X, hz⟩ : St9)]).map (fun x : St9 => ls x.1) ++ (if q1 = true then ls Y :: sufL (ls Y) else []) = sufL (ls s)) := by
        refine Lib.hid ?_
        rw [← e3, ← hP]
        simp
      have HZ2 := Lib.hid z2
      clear e1 e2 e3 HQ0 hP z2
      gi_wp2_with fail
      refine ⟨trivial, (fun h => by cases h), ?_⟩
      refine (callsIn_wide.2 (cc _)).mono ?_
      rintro e w2 ⟨rfl, hb2⟩
      obtain ⟨fn, tmps, assign, body, hy, hR⟩ := hY pre ⟨X, hz⟩ w2 (ku hj hb2) hl
      dsimp only at hy
      gi_wp2
      refine ⟨(fun h => by cases h), ?_⟩
      refine hR.mono ?_
      rintro e W3 (⟨rfl, hJ3, hk3, _⟩ | ⟨rfl, hJx3⟩)
      · gi_wp2_with fail
        refine ⟨trivial, (fun h => by cases h), ?_⟩
        refine (callsIn_wide.2 (cq _)).mono ?_
        rintro e w4 ⟨rfl, hb4⟩
        gi_wp2
        go_roundw
        case rel => exact ⟨_, Y, q1, rfl, rfl, z1, HN, ku hJ3 hb4⟩
        case measure =>
          cases q1 with
          | false => simp
          | true => have := HZ2.out rfl; simp; omega
      · gi_wp2
        go_end0
        exact ⟨⟨_, rfl⟩, .inr ⟨_, hpre, hJx3⟩⟩

set_option maxHeartbeats 1000000 in
theorem supers_any (hV : HoVn 16) (s : ByteArray) (w : World) (hs : s.size ≤ 1000000000) : Calls Tryz.prog 26 #[.string s] w (SupsPost (supersL (ls s)) w) := by
  have c := hV s w hs
  have cc := fun W => cl_any s W hs
  cases hv : vnL (ls s) with
  | false =>
    rw [hv] at c
    have HL : Hid (supersL (ls s) = []) := Lib.hid (by unfold supersL; rw [if_neg (by rw [hv]; simp)])
    clear hv cc
    go_enter Tryz.func26, Tryz.ntmps26
    go_wp2_with fail
    refine c.mono ?_
    rintro e w1 ⟨rfl, hb1⟩
    go_wp2
    go_ret
    exact ⟨61, #[], fun _ => False, rfl, ⟨enters_of Tryz.func61 (by kernel_rfl) rfl, (fun r h => h.elim), fun n W0 _ => sup_none n W0 _ HL.out⟩, (fun r h => h.elim), hb1⟩
  | true =>
    rw [hv] at c
    have HL := Lib.hid (supers_suf hv)
    clear hv
    go_enter Tryz.func26, Tryz.ntmps26
    go_wp2_with fail
    refine c.mono ?_
    rintro e w1 ⟨rfl, hb1⟩
    go_wp2_with fail
    refine (cc _).mono ?_
    rintro e w2 ⟨rfl, hb2⟩
    have hb := hb1.trans (hb2.mono hb1.size)
    have q1 := Boxed.new w2 9 (.string s)
    clear hb1 hb2 c cc
    go_wp2
    go_ret
    refine ⟨63, #[.pointer (some ⟨w2.heap.size, 0, none⟩)], fun r => r = w2.heap.size, rfl, ⟨enters_of Tryz.func63 (by kernel_rfl) rfl, ?_, ?_⟩, (fun r h => by rw [h]; exact hb.size), hb.alloc hb.size _⟩
    · rintro r rfl
      simp
    · intro n W0 hW
      rw [HL.out]
      exact sup_it n _ s hs W0 ((hW _ rfl).trans q1)
end

section
open Go.RowKit Go.Shelf
attribute [local go_sem] Oper.semAt_some

theorem seqUnd : (Tryz.prog.underlying 43).map (fun d => match d with | .func .. => true | _ => false) = some true := by kernel_rfl
theorem func_nil (gf : Nat) (lb : Array Value) (W : World) : (binOp .eql 43 (.func (.func gf) #[] lb) .nilFunc).run Tryz.prog W = .ok (.bool false) W := by
  have hu := seqUnd
  cases hx : Tryz.prog.underlying 43 with
  | none => rw [hx] at hu; cases hu
  | some d =>
    rw [hx] at hu
    cases d <;> first
      | (cases hu; done)
      | (have e1 : ∀ d : Nat, (Op.equalIn (d + 1) 43 (.func (.func gf) #[] lb) .nilFunc).run Tryz.prog W = .ok false W := fun d => by simp [Op.equalIn, run_underlying hx]
         have e2 : (Op.equal 43 (.func (.func gf) #[] lb) .nilFunc).run Tryz.prog W = .ok false W := e1 9999
         simp only [binOp]
         simp [e2])
theorem supers_le (l : List UInt8) : (supersL l).length ≤ 253 := by
  rw [supers_count]
  unfold labelsL
  split
  · rename_i h
    have h1 := ((vn_iff l).1 h).len
    have h2 := splitL_length 46 l
    omega
  · omega

set_option maxRecDepth 100000 in
set_option maxHeartbeats 4000000 in
theorem lawSupers_any (hV : HoVn 16) (s : ByteArray) (w : World) (hs : s.size ≤ 1000000000) : Calls Tryz.prog 21 #[.string s] w (ListPost (supersL (ls s)) w) := by
  have cS := fun W => supers_any hV s W hs
  have hLn := supers_le (ls s)
  obtain ⟨i0, hi, hz0, hz1, hz2⟩ := info_parts infoStr
  have hnil := fun gf lb W => func_nil gf lb W
  generalize supersL (ls s) = L at *
  refine (callsIn_wide (n := 3)).1 ?_
  refine callsIn_of_wp_marks Tryz.func21 rfl trivial ?_ rfl
  simp only [Tryz.ntmps21, List.size_toArray, List.length_cons, List.length_nil, Nat.reduceAdd, Nat.reduceSub, Array.replicate_succ, Array.replicate_zero, List.push_toArray, List.append_toArray, List.nil_append, List.cons_append]
  gi_wp2_with fail
  refine ⟨trivial, ?_⟩
  have r0 := Boxed.new w 35 (.slice none 0 0)
  obtain ⟨W1, hW1⟩ : ∃ W, W = w.alloc (.cells #[.slice none 0 0] 35) := ⟨_, rfl⟩
  have hb1 : Below w.heap.size w W1 := by rw [hW1]; exact (Below.refl _ w).alloc (Nat.le_refl _) _
  have hz1' : W1.heap.size = w.heap.size + 1 := by rw [hW1]; simp
  rw [← hW1] at r0 ⊢
  clear hW1
  refine (callsIn_wide.2 (cS _)).mono ?_
  rintro e W3 ⟨gf, lb, Kr, rfl, hit, hKl, hb2⟩
  replace r0 : Boxed W3 w.heap.size 35 (.slice none 0 0) := (hb2.block _ r0.lt).trans r0
  have hb3 := hb1.trans (hb2.mono hb1.size)
  have hz3 := hb2.size
  obtain ⟨B0, hB0⟩ : ∃ b, b = w.heap.size := ⟨_, rfl⟩
  rw [← hB0] at r0 ⊢
  have hK0 : ∀ r, Kr r → r ≠ B0 := fun r hr e => by have := hKl r hr; omega
  have HB := Lib.hid hB0
  have HZ : Hid (B0 + 1 ≤ W3.heap.size) := Lib.hid (by omega)
  clear hb1 hb2 hz1' hz3 hKl cS hB0
  gi_wp2_with fail
  refine wpIn_rangeFunc_T (α := St9) rfl (by decide) (gf := gf) (lb := lb) rfl trivial hit.1
    (enc := fun x : St9 => .string x.1) (Al := fun _ => False) (Kr := Kr) (S := fun xs => xs.map (fun x => ls x.1) = L) (Sp := fun pre => pre.map (fun x => ls x.1) <+: L) (N := L.length)
    (fun r h => False.elim h) hit.2.1 (fun W0 hg => hit.2.2 _ W0 (fun r hr => hg.block r (hit.2.1 r hr) (by simp))) rfl
    (fun pre W => BoxRow W B0 35 W3.heap.size 9 1 pre.length (wv (pre.map fun x => ls x.1)) ∧ Below w.heap.size w W)
    (fun c pre W => False)
    ((ownT_boxrow B0 35 W3.heap.size 9 1 (fun pre : List St9 => pre.length) (fun pre => wv (pre.map fun x => ls x.1)) (fun h => h) (fun r h => False.elim h)).and (ownT_below (Nat.le_refl _) hb3.size (fun r h => False.elim h)))
    (fun c => ownT_pure _)
    ⟨⟨_, r0, World.ownsRow_nil _ _ _ _⟩, hb3⟩
    (fun x => { tmps := #[.string s, undef, .slice none 0 0, .pointer (some ⟨B0, 0, none⟩), .func (.func gf) #[] lb, .string x.1, .string s, .func (.func gf) #[] lb, .func (.func gf) #[] lb, .bool false, .func (.func gf) #[] lb, .string x.1, undef, undef, undef, undef, undef, undef, undef, undef], defers := [] }) ?assign ?body ?done ?stop
  case assign =>
    intro l x W K hK
    gi_wp2
    exact hK
  case body =>
    rintro l pre x W hl1 hl2 ⟨hbr, hB⟩ hN9
    have hN1 : W3.heap.size ≤ W.heap.size := by omega
    have hd : decide ((300 : Int) < ((pre.length + 1 : Nat) : Int)) = false := decide_eq_false (by omega)
    have hd2 : decide ((300 : Int) < (pre.length : Int) + 1) = false := decide_eq_false (by omega)
    have hle : pre.length ≤ 1000 := by omega
    obtain ⟨v, hv, hr⟩ := hbr
    have k1 := hv.cell
    have hbB : B0 < W3.heap.size := HZ.out
    clear hN9 hl1 hl2 hLn
    gi_wp2_with (gi_at_builtin; refine wpListIn_append_own _ rfl _ _ 35 rfl W3.heap.size 9 i0 (.string ByteArray.empty) 1 16 tyStrs hi hz0 hz1 hz2 rfl (by decide) _ _ _ rfl (hr.alloc _) ⟨W.heap.size, 0, none⟩ 1 1 [.string x.1] rfl rfl (cell_one_new _ _ _) (by simp [Value.oneCell']) (by unfold maxLen; omega) (by omega) (by simp; omega) ?_; intro v' w5 hown' hgrow _; obtain ⟨g', cap', rfl⟩ := ownsRow_succ hown'; obtain ⟨p1, p2, p3, p4, p5, p6⟩ := box_app hv hr hbB hN1 hown' hgrow; have q1 := p1.cell; have q2 := p1.frozen)
    refine ⟨p4.from _, fun r h => p5 r (hit.2.1 r h) (hK0 r h), ?_, p6 _ _ (by have := HB.out; omega) hB⟩
    have e1 : wv (pre.map fun x => ls x.1) ++ [.string x.1] = wv ((pre ++ [x]).map fun x => ls x.1) := by
      have := wv_snoc (pre.map fun x => ls x.1) (ls x.1)
      rw [bs_ls] at this
      rw [this, List.map_append]
      rfl
    rw [← e1, List.length_append, List.length_singleton]
    exact p3
  case done =>
    rintro D xs W hD hS ⟨hbr, hB⟩ hK
    obtain ⟨v, hv, hr⟩ := hbr
    have k1 := hv.cell
    have hm := hS
    gi_wp2
    refine ⟨by simp, .inl ⟨_, _, rfl, run_takeDeferred hK, ?_⟩⟩
    have hr2 : (W.putObj D (.deferred none)).ownsRow W3.heap.size 9 1 v xs.length (wv (xs.map fun x => ls x.1)) := ownsRow_putObj hr _ hK rfl
    rw [hS] at hr2
    exact ⟨v, by simp [results, Tryz.f21, go_sem], ⟨v, _, rfl, ⟨hr2.1, hr2.2.imp id fun ⟨g, cap, cur, h1, h2, h3⟩ => ⟨g, cap, cur, h1, Nat.le_trans hb3.size h2, h3⟩⟩, hB.trans (belowK_b (w := w) (Nat.le_refl _) W D _ _ (by have := hb3.size; omega) hK rfl rfl)⟩⟩
  case stop =>
    rintro D c pre W hD hpre h hK
    exact h.elim
end

section
open Go.RowKit Go.Shelf

set_option maxHeartbeats 1000000 in
theorem refLabels_any : HoLab 19 := by
  intro s w hs
  have c1 := fun W => refVn_any s W hs
  cases hv : vnL (ls s) with
  | false =>
    rw [hv] at c1
    have e : labelsL (ls s) = 0 := by unfold labelsL; rw [if_neg (by rw [hv]; simp)]
    rw [e]
    clear e hv
    go_enter Tryz.func19, Tryz.ntmps19
    go_wp2_with fail
    refine (c1 _).mono ?_
    rintro e w1 ⟨rfl, hb1⟩
    go_wp2
    go_ret
    exact ⟨rfl, hb1⟩
  | true =>
    rw [hv] at c1
    have e : labelsL (ls s) = (splitL 46 (ls s)).length := by unfold labelsL; rw [if_pos hv]
    rw [e]
    have c2 := fun W => refSplit_any s 46 W hs
    generalize splitL 46 (ls s) = P at *
    clear e hv
    go_enter Tryz.func19, Tryz.ntmps19
    go_wp2_with fail
    refine (c1 _).mono ?_
    rintro e w1 ⟨rfl, hb1⟩
    go_wp2_with fail
    refine (c2 _).mono ?_
    rintro e w2 ⟨v, m, rfl, hown, hb2⟩
    obtain ⟨A, c, rfl, hh, hmc⟩ := Has.of_own hown
    have hm : m = P.length := by have := hh.1; rw [wv_length] at this; omega
    have HM := Lib.hid hm
    have HB := Lib.hid (hb1.trans (hb2.mono hb1.size))
    clear hm hh hown hb1 hb2 c1 c2
    go_wp2
    go_ret
    exact ⟨ret_int (by rw [← HM.out]), HB.out⟩

theorem suf_drop {a b : List UInt8} (h : a.length ≤ b.length) : a.isSuffixOf b = (b.drop (b.length - a.length) == a) := by
  rw [Bool.eq_iff_iff, List.isSuffixOf_iff_suffix, beq_iff_eq]
  constructor
  · rintro ⟨x, rfl⟩
    rw [List.length_append, Nat.add_sub_cancel, List.drop_left]
  · intro e
    exact ⟨b.take (b.length - a.length), by
      have := List.take_append_drop (b.length - a.length) b
      rw [e] at this
      exact this⟩
theorem suf_long {a b : List UInt8} (h : b.length < a.length) : a.isSuffixOf b = false := by
  rw [Bool.eq_false_iff]
  intro e
  rw [List.isSuffixOf_iff_suffix] at e
  have := e.length_le
  omega

set_option maxHeartbeats 1000000 in
theorem refCovers_any : HoCov 24 := by
  intro s t w hs ht
  have c1 := refVn_any s w hs
  have c2 := fun W => refVn_any t W ht
  unfold coversL
  have e1 : (s.toList == t.toList) = decide (ls s = ls t) := by rw [toList_ls, toList_ls]; exact Bool.eq_iff_iff.2 (by simp)
  have h4 : s.size < t.size → ((t.extract (t.size - s.size - 1) t.size).toList == ((⟨#[46]⟩ : ByteArray) ++ s).toList) = (46 :: ls s).isSuffixOf (ls t) := by
    intro h
    have ea : ls ((⟨#[46]⟩ : ByteArray) ++ s) = 46 :: ls s := ls_append ⟨#[46]⟩ s
    rw [suf_drop (by rw [List.length_cons, ls_length, ls_length]; omega), toList_ls, toList_ls, ea, ls_from, List.length_cons, ls_length, ls_length, Nat.sub_sub]
  have h5 : ¬ s.size < t.size → (46 :: ls s).isSuffixOf (ls t) = false := fun h => suf_long (by rw [List.length_cons, ls_length, ls_length]; omega)
  obtain ⟨q1, h1⟩ : ∃ q, q = vnL (ls s) := ⟨_, rfl⟩
  obtain ⟨q2, h2⟩ : ∃ q, q = vnL (ls t) := ⟨_, rfl⟩
  obtain ⟨q3, h3⟩ : ∃ q, q = decide (ls s = ls t) := ⟨_, rfl⟩
  obtain ⟨q4, hq4⟩ : ∃ q, q = (46 :: ls s).isSuffixOf (ls t) := ⟨_, rfl⟩
  rw [← h1] at c1 ⊢
  simp only [← h2] at c2 ⊢
  rw [← h3] at e1 ⊢
  rw [← hq4] at h4 h5 ⊢
  clear h1 h2 h3 hq4
  cases q1 with
  | false =>
    clear h4 h5
    go_enter Tryz.func24, Tryz.ntmps24
    go_wp2_with fail
    refine c1.mono ?_
    rintro r w1 ⟨rfl, hb⟩
    go_wp2
    go_ret
    exact ⟨rfl, hb⟩
  | true =>
    cases q2 with
    | false =>
      clear h4 h5
      go_enter Tryz.func24, Tryz.ntmps24
      go_wp2_with fail
      refine c1.mono ?_
      rintro r w1 ⟨rfl, hb⟩
      go_wp2_with fail
      refine (c2 _).mono ?_
      rintro r w2 ⟨rfl, hb2⟩
      go_wp2
      go_ret
      exact ⟨rfl, hb.trans (hb2.mono hb.size)⟩
    | true =>
      cases q3 with
      | true =>
        clear h4 h5
        go_enter Tryz.func24, Tryz.ntmps24
        go_wp2_with fail
        refine c1.mono ?_
        rintro r w1 ⟨rfl, hb⟩
        go_wp2_with fail
        refine (c2 _).mono ?_
        rintro r w2 ⟨rfl, hb2⟩
        go_wp2
        go_ret
        exact ⟨rfl, hb.trans (hb2.mono hb.size)⟩
      | false =>
        by_cases hl : s.size < t.size
        · have h6 := h4 hl
          have hd : decide ((s.size : Int) < (t.size : Int)) = true := decide_eq_true (by omega)
          obtain ⟨K, hK⟩ : ∃ K, K = t.size - s.size - 1 := ⟨_, rfl⟩
          have g1 : (t.size : Int) - (s.size : Int) - 1 = (K : Int) := by omega
          have g2 : K ≤ t.size := by omega
          rw [← hK] at h6
          clear h4 h5 hK
          go_enter Tryz.func24, Tryz.ntmps24
          go_wp2_with fail
          refine c1.mono ?_
          rintro r w1 ⟨rfl, hb⟩
          go_wp2_with fail
          refine (c2 _).mono ?_
          rintro r w2 ⟨rfl, hb2⟩
          go_wp2
          go_ret
          exact ⟨by simp, hb.trans (hb2.mono hb.size)⟩
        · have hd : decide ((s.size : Int) < (t.size : Int)) = false := decide_eq_false (by omega)
          have h6 := h5 hl
          subst h6
          clear h4 h5
          go_enter Tryz.func24, Tryz.ntmps24
          go_wp2_with fail
          refine c1.mono ?_
          rintro r w1 ⟨rfl, hb⟩
          go_wp2_with fail
          refine (c2 _).mono ?_
          rintro r w2 ⟨rfl, hb2⟩
          go_wp2
          go_ret
          exact ⟨rfl, hb.trans (hb2.mono hb.size)⟩
end

section
open Go.RowKit Go.Shelf

def SupAt14 (s : ByteArray) (acc : List (List UInt8)) (k : Nat) : Prop := supGo (ls s) = acc ++ supGo ((ls s).drop k)
theorem supAt_yes {s : ByteArray} {acc : List (List UInt8)} {k : Nat} (h : SupAt14 s acc k) (hk : k < s.size) (hb : s[k] = 46) (hv : vnL ((ls s).drop (k + 1)) = true) : SupAt14 s (acc ++ [(ls s).drop (k + 1)]) (k + 1) := by
  unfold SupAt14 at *
  rw [h, drop_ls s k hk, supGo, if_pos ⟨hb, hv⟩, List.append_assoc]
  rfl
theorem supAt_no {s : ByteArray} {acc : List (List UInt8)} {k : Nat} (h : SupAt14 s acc k) (hk : k < s.size) (hb : ¬ (s[k] = 46 ∧ vnL ((ls s).drop (k + 1)) = true)) : SupAt14 s acc (k + 1) := by
  unfold SupAt14 at *
  rw [h, drop_ls s k hk, supGo, if_neg hb]
theorem supAt_end {s : ByteArray} {acc : List (List UInt8)} (h : SupAt14 s acc s.size) : acc = supGo (ls s) := by
  unfold SupAt14 at h
  rw [h, List.drop_eq_nil_of_le (by rw [ls_length]; exact Nat.le_refl _)]
  simp [supGo]

set_option maxRecDepth 20000 in
set_option maxHeartbeats 2000000 in
theorem refSupers_any (s : ByteArray) (w : World) (hs : s.size ≤ 1000000000) : Calls Tryz.prog 22 #[.string s] w (ListPost (supersL (ls s)) w) := by
  have c0 := refVn_any s w hs
  unfold supersL
  cases hv : vnL (ls s) with
  | false =>
    rw [hv] at c0
    rw [if_neg (by simp)]
    clear hv
    go_enter Tryz.func22, Tryz.ntmps22
    go_wp2_with fail
    refine c0.mono ?_
    rintro e w1 ⟨rfl, hb1⟩
    go_wp2
    go_ret
    exact ⟨_, _, rfl, World.ownsRow_nil _ _ _ _, hb1⟩
  | true =>
    rw [hv] at c0
    rw [if_pos rfl]
    obtain ⟨i9, hi9, hz0, hz1, hz2⟩ := info_parts infoStr
    clear hv
    go_enter Tryz.func22, Tryz.ntmps22
    go_wp2_with fail
    refine c0.mono ?_
    rintro e w0 ⟨rfl, hb0⟩
    clear c0
    go_wp2
    go_loopw [3, 4] (fun v i wr => ∃ (k : Nat) (acc : List (List UInt8)), k ≤ s.size ∧ acc.length ≤ k ∧ i = .int .i64 k ∧ Hid (SupAt14 s acc k) ∧ wr.ownsRow w.heap.size 9 1 v acc.length (wv acc) ∧ Below w.heap.size w wr) (fun _ i _ => s.size - (intOf i).toNat)
    case atStart => exact ⟨0, [], Nat.zero_le _, Nat.le_refl _, rfl, Lib.hid rfl, World.ownsRow_nil _ _ _ _, hb0⟩
    case round =>
      obtain ⟨k, acc, hk, hal, rfl, HAT, hown, hb⟩ := hrel
      by_cases hlt : k < s.size
      · by_cases hsp : s[k] = 46
        · have hq : ((s[k].toNat : Int) == 46) = true := by rw [hsp]; rfl
          have hX : ls (s.extract (k + 1) s.size) = (ls s).drop (k + 1) := ls_from s (k + 1)
          have c1 := fun W => refVn_any (s.extract (k + 1) s.size) W (by rw [← ls_length, hX, List.length_drop, ls_length]; omega)
          have hk1 : k + 1 ≤ s.size := hlt
          rw [hX] at c1
          cases hv : vnL ((ls s).drop (k + 1)) with
          | true =>
            rw [hv] at c1
            have HN := Lib.hid (supAt_yes HAT.out hlt hsp hv)
            have HX : Hid (s.extract (k + 1) s.size = bs ((ls s).drop (k + 1))) := Lib.hid (by rw [← hX, bs_ls])
            clear hv hsp hX
            go_wp2_with fail
            refine (c1 _).mono ?_
            rintro e w1 ⟨rfl, hb1⟩
            have hown1 := own_below hown hb1
            have hbb := hb.trans (hb1.mono hb.size)
            clear hown hb hb1 c1
            go_wp2_with (at_builtin; refine wpList_app_one _ rfl _ _ 35 rfl w.heap.size 9 i9 (.string ByteArray.empty) 16 tyStrs hi9 hz0 hz1 hz2 rfl _ (by exact rfl) _ _ _ (by exact rfl) hown1 (by exact rfl) (by unfold maxLen; omega) (by omega) hbb (Nat.le_refl _) ?_; intro v' w' hown' hb' _)
            go_roundw
            case rel =>
              refine ⟨k + 1, acc ++ [(ls s).drop (k + 1)], hk1, by simp; omega, by go_num, HN, ?_, hb'⟩
              rw [← wv_snoc, ← HX.out]; simpa using hown'
            case measure => simp [intOf]; omega
          | false =>
            rw [hv] at c1
            have HN := Lib.hid (supAt_no HAT.out hlt (by rw [hv]; simp))
            clear hv hsp hX
            go_wp2_with fail
            refine (c1 _).mono ?_
            rintro e w1 ⟨rfl, hb1⟩
            have hown1 := own_below hown hb1
            have hbb := hb.trans (hb1.mono hb.size)
            clear hown hb hb1 c1
            go_wp2
            go_roundw
            case rel => exact ⟨k + 1, acc, hk1, by omega, by go_num, HN, hown1, hbb⟩
            case measure => simp [intOf]; omega
        · have hq : ((s[k].toNat : Int) == 46) = false := by
            rw [beq_eq_false_iff_ne]
            exact fun e => hsp (UInt8.toNat_inj.1 (by rw [show (46 : UInt8).toNat = 46 from rfl]; omega))
          have HN := Lib.hid (supAt_no HAT.out hlt (fun h => hsp h.1))
          clear hsp
          go_wp2
          go_roundw
          case rel => exact ⟨k + 1, acc, by omega, by omega, by go_num, HN, hown, hb⟩
          case measure => simp [intOf]; omega
      · obtain rfl : k = s.size := by omega
        have HE := Lib.hid (supAt_end HAT.out)
        go_wp2
        go_ret
        exact ⟨_, _, rfl, by rw [← HE.out]; exact hown, hb⟩
end

section
open Go.RowKit

def shortB (n : Int) (ss : List ByteArray) : Bool := ss.all fun s => decide ((s.size : Int) ≤ n)
theorem shortB_no (n : Int) (ss : List ByteArray) (k : Nat) (h : k < ss.length) (hn : n < (ss[k].size : Int)) : shortB n ss = false := by
  unfold shortB
  rw [List.all_eq_false]
  exact ⟨ss[k], List.getElem_mem h, by simp; omega⟩
theorem shortB_succ (n : Int) (ss : List ByteArray) (k : Nat) (h : k < ss.length) (ht : shortB n (ss.take k) = true) (hn : (ss[k].size : Int) ≤ n) : shortB n (ss.take (k + 1)) = true := by
  unfold shortB at ht ⊢
  rw [List.take_succ_eq_append_getElem h, List.all_append, ht]
  simp [hn]

set_option maxHeartbeats 1000000 in
theorem short_any (n : Int) (A : Option Addr) (len cap : Nat) (ss : List ByteArray) (B : Nat) (w : World) (hA : Has w B A len (ss.map Value.string)) (hlen : len ≤ 1000000000) :
    Calls Tryz.prog 15 #[.int .i64 n, .slice A len cap] w fun e w' => e = .returned (.bool (shortB n ss)) ∧ w = w' := by
  have hl : ss.length = len := by simpa using hA.1
  go_enter Tryz.func15, Tryz.ntmps15
  have HL := Lib.hid hl
  have HA := Lib.hid hA
  clear hl hA
  go_wp2
  go_loop [5] (fun i => ∃ k : Nat, k ≤ len ∧ i = .int .i64 k ∧ shortB n (ss.take k) = true) (fun i => len - (intOf i).toNat)
  case atStart => exact ⟨0, Nat.zero_le _, rfl, rfl⟩
  case round =>
    obtain ⟨k, hk, rfl, hsh⟩ := hrel
    have HS := Lib.hid hsh
    clear hsh
    by_cases hlt : k < len
    · have hks : k < ss.length := by rw [HL.out]; exact hlt
      obtain ⟨b, off, rfl, hb, hc⟩ := HA.out.at_ hlt
      rw [List.getElem_map] at hc
      by_cases hn : n < (ss[k].size : Int)
      · have HF := Lib.hid (shortB_no n ss k hks hn)
        go_wp2
        go_ret
        exact ⟨ret_bool HF.out.symm, rfl⟩
      · have HT := Lib.hid (shortB_succ n ss k hks HS.out (by omega))
        go_wp2
        go_round
        case rel => exact ⟨k + 1, by omega, by go_num, HT.out⟩
        case measure => simp [intOf]; omega
    · have HF : Hid (shortB n ss = true) := by
        have := HS.out
        rwa [List.take_of_length_le (by rw [HL.out]; omega)] at this
      go_wp2
      go_ret
      exact ⟨ret_bool HF.out.symm, rfl⟩
end

end Go.Proofs.YtpccpgihldpiiaaGreatDoor
