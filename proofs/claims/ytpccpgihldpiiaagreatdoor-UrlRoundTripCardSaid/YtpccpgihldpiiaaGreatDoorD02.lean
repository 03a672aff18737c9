/-
Contract of Format of package ipv6.
Canonical labels, test by test. No program.
Punycode in plain words: where the encoder stands between its rounds. No program.
Contracts of Point, threshold, digit, value and adapt of the reference of layer 12.
Contract of the reference's Encode of layer 12, of valid code points.
Contract of the reference's Encode of layer 12, of any numbers.
-/
import Derived.Test.YtpccpgihldpiiaaGreatDoorD01
import Derived.Deep.RegionHeld3
import Derived.Test.YtpccpgihldpiiaaGreatDoorC02
import Derived.Test.YtpccpgihldpiiaaGreatDoorC01
import Derived.Test.YtpccpgihldpiiaaGreatDoorRows
import Derived.Test.YtpccpgihldpiiaaGreatDoorC21
import Derived.Test.YtpccpgihldpiiaaGreatDoorC07
import Derived.Deep.LoopGhost
import Derived.BigQuiet
import Derived.Deep.CutRange
import Derived.Deep.CutBlock
namespace Go.Proofs.YtpccpgihldpiiaaGreatDoor
section
open Go.RowKit

theorem bs_add6 (l m : List UInt8) : bs l ++ bs m = bs (l ++ m) := ls_inj (by rw [ls_append, ls_bs, ls_bs, ls_bs])
/-- A part of an array of eight groups. -/
theorem a8_part {w : World} {g : Nat} {C : List Nat} (h : RowA w g C) (hC : C.length = 8) (l m : Nat) (hm : l + m ≤ 8) {B : Nat} (hB : g < B) (A : Option Addr) (hA : 0 < m → A = some ⟨g, l, none⟩) : Has w B A m (uv ((C.drop l).take m)) := by
  refine ⟨by rw [uv_length, List.length_take, List.length_drop, hC]; omega, fun h0 => ⟨g, l, hA h0, hB, fun j hj => ?_⟩⟩
  have hj' : j < m := by
    rw [uv_length, List.length_take] at hj
    omega
  rw [h.cell (k := l + j) (by omega)]
  simp [uv, List.getD_eq_getElem?_getD, List.getElem?_eq_getElem (show l + j < C.length by omega)]
theorem lz_facts (a : List Nat) (ha : a.length = 8) : (lzS a = lzE a ∧ lzS a = 0 ∧ fmt6 a = joinL 58 (a.map hexT)) ∨ (lzS a < lzE a ∧ lzE a ≤ 8 ∧ fmt6 a = joinL 58 ((a.take (lzS a)).map hexT) ++ ([58, 58] ++ joinL 58 ((a.drop (lzE a)).map hexT))) := by
  rcases best_is a 8 with e | ⟨i, m, hi, e, h2, hm⟩
  · left
    unfold lzS lzE fmt6 txt6
    rw [e]
    refine ⟨rfl, rfl, ?_⟩
    rw [if_pos (.inl (by decide)), List.take_of_length_le (by omega)]
  · right
    have hz := zrun_le (a.drop i)
    rw [List.length_drop] at hz
    unfold lzS lzE fmt6 txt6
    rw [e]
    simp only
    rw [if_neg (by omega), if_neg (by omega), if_neg (by omega), List.take_of_length_le (show a.length ≤ 8 by omega)]
    exact ⟨by omega, by omega, rfl⟩
/-- A part of an array as it is given to a call. -/
theorem a8_slice (g l h : Nat) (hl : l ≤ h) (h8 : h ≤ 8) : ∃ A : Option Addr, (0 < h - l → A = some ⟨g, l, none⟩) ∧ A = some (if 8 = l then (⟨g, 0, none⟩ : Addr) else ⟨g, l, none⟩) :=
  ⟨_, fun h0 => by rw [if_neg (by omega)], rfl⟩

set_option maxRecDepth 20000 in
set_option maxHeartbeats 4000000 in
theorem pFmt6 : P6Fmt 153 := by
  intro a ha hg w hp
  have HAL := Lib.hid ha
  have HGG := Lib.hid hg
  have c0 := fun W => long_any a ha W
  have hfa := lz_facts a ha
  generalize hS : lzS a = S at *
  generalize hE : lzE a = E at *
  generalize fmt6 a = F at *
  clear hS hE
  rcases hfa with ⟨h1, h2, hF⟩ | ⟨h1, h2, hF⟩
  · subst h1
    subst h2
    have HF := Lib.hid hF
    clear hF
    go_enter Tryz.func153, Tryz.ntmps153
    go_wp2_with (first
      | (refine wpList_box_arr _ rfl 1 rfl _ _ rfl _ (av a) (by exact rfl) (by exact rfl) ?_; intro W1 ga hga hla hA hG; have hb1 := below_row0 (Below.refl w.heap.size w) hG (Nat.le_refl _))
      | (refine wpList_load_arr _ rfl _ _ rfl ga (by exact rfl) _ (av a) hA 8 _ tyA8 (sizeA a HAL.out) ?_))
    refine (c0 _).mono ?_
    rintro e w2 ⟨rfl, hb2⟩
    have hA2 : RowA w2 ga a := Row.below hA hb2 hla
    replace hb2 := hb1.trans (hb2.mono hb1.size)
    have hsl := fun W => run_slice_arr (P := Tryz.prog) 25 24 8 ga 0 8 tyA8 sizeU16 none none (.inr ⟨rfl, rfl⟩) (.inr ⟨rfl, rfl⟩) (by omega) (by omega) W
    simp only [if_neg (show ¬ 8 = 0 by omega), Nat.sub_zero] at hsl
    have hh := a8_part hA2 HAL.out 0 8 (by omega) hA2.lt (some ⟨ga, 0, none⟩) (fun _ => rfl)
    rw [List.drop_zero, List.take_of_length_le (by rw [HAL.out]; exact Nat.le_refl _)] at hh
    have hp2 := pow6_below hp hb2
    clear hG hA hA2
    go_wp2_with fail
    refine (joined_any _ 8 8 a HGG.out (by omega) w2 hp2 hh).mono ?_
    rintro e w3 ⟨rfl, hb3⟩
    replace hb3 := hb2.trans (hb3.mono hb2.size)
    go_wp2
    go_ret
    exact ⟨by rw [HF.out]; rfl, hb3⟩
  · obtain ⟨J1, hJ1⟩ : ∃ J, J = bs (joinL 58 ((a.take S).map hexT)) := ⟨_, rfl⟩
    obtain ⟨J2, hJ2⟩ : ∃ J, J = bs (joinL 58 ((a.drop E).map hexT)) := ⟨_, rfl⟩
    have hz1 : J1.size ≤ 40 := by
      rw [hJ1, bs_size]
      have := join_len (a.take S) (hg.take S)
      rw [List.length_take] at this
      omega
    have hz2 : J2.size ≤ 40 := by
      rw [hJ2, bs_size]
      have := join_len (a.drop E) (hg.drop E)
      rw [List.length_drop] at this
      omega
    have HF : Hid (bs F = (J1 ++ (⟨#[58, 58]⟩ : ByteArray)) ++ J2) := by
      show _ = _
      rw [hF, hJ1, hJ2, show (⟨#[58, 58]⟩ : ByteArray) = bs [58, 58] from rfl, bs_add6, bs_add6, List.append_assoc]
    have k1 : ¬ 9223372036854775807 < J1.size + 2 := by omega
    have k2 : ¬ 9223372036854775807 < J1.size + (⟨#[58, 58]⟩ : ByteArray).size := by rw [show (⟨#[58, 58]⟩ : ByteArray).size = 2 from rfl]; omega
    have k3 : ¬ 9223372036854775807 < J1.size + 2 + J2.size := by omega
    have k4 : ¬ 9223372036854775807 < (J1 ++ (⟨#[58, 58]⟩ : ByteArray)).size + J2.size := by
      rw [ByteArray.size_append, show (⟨#[58, 58]⟩ : ByteArray).size = 2 from rfl]; omega
    have hne : ((S : Int) == (E : Int)) = false := by rw [beq_eq_false_iff_ne]; omega
    have hJa := fun (A : Option Addr) (W : World) (h1 : Pow6 W) (h2 : Has W W.heap.size A S (uv (a.take S))) => joined_any A S 8 (a.take S) (HGG.out.take S) (by omega) W h1 h2
    have hJb := fun (A : Option Addr) (W : World) (h1 : Pow6 W) (h2 : Has W W.heap.size A (8 - E) (uv (a.drop E))) => joined_any A (8 - E) (8 - E) (a.drop E) (HGG.out.drop E) (by omega) W h1 h2
    rw [← hJ1] at hJa
    rw [← hJ2] at hJb
    have HSE := Lib.hid h1
    have HE8 := Lib.hid h2
    clear hF hJ1 hJ2 hg hz1 hz2
    go_enter Tryz.func153, Tryz.ntmps153
    go_wp2_with (first
      | (refine wpList_box_arr _ rfl 1 rfl _ _ rfl _ (av a) (by exact rfl) (by exact rfl) ?_; intro W1 ga hga hla hA hG; have hb1 := below_row0 (Below.refl w.heap.size w) hG (Nat.le_refl _))
      | (refine wpList_load_arr _ rfl _ _ rfl ga (by exact rfl) _ (av a) hA 8 _ tyA8 (sizeA a HAL.out) ?_))
    refine (c0 _).mono ?_
    rintro e w2 ⟨rfl, hb2⟩
    have hA2 : RowA w2 ga a := Row.below hA hb2 hla
    replace hb2 := hb1.trans (hb2.mono hb1.size)
    have hs1 := fun W => run_slice_arr (P := Tryz.prog) 25 24 8 ga 0 S tyA8 sizeU16 none (some (.int .i64 (S : Int))) (.inr ⟨rfl, rfl⟩) (.inl rfl) (by omega) (by omega) W
    have hs2 := fun W => run_slice_arr (P := Tryz.prog) 25 24 8 ga E 8 tyA8 sizeU16 (some (.int .i64 (E : Int))) none (.inl rfl) (.inr ⟨rfl, rfl⟩) (by omega) (by omega) W
    simp only [if_neg (show ¬ 8 = 0 by omega), Nat.sub_zero] at hs1
    obtain ⟨A2, hA2e, hA20⟩ : ∃ A : Option Addr, A = some (if 8 = E then (⟨ga, 0, none⟩ : Addr) else ⟨ga, E, none⟩) ∧ (0 < 8 - E → A = some ⟨ga, E, none⟩) := ⟨_, rfl, fun h => by rw [if_neg (by omega)]⟩
    rw [← hA2e] at hs2
    have cL : ∀ W, Below w2.heap.size w2 W → Calls Tryz.prog 190 #[.slice (some ⟨ga, 0, none⟩) S 8] W fun e w' => e = .returned (.string J1) ∧ Below W.heap.size W w' := by
      intro W hbW
      have hAW : RowA W ga a := Row.below hA2 hbW hA2.lt
      have hh := a8_part hAW HAL.out 0 S (by have := HSE.out; have := HE8.out; omega) hAW.lt (some ⟨ga, 0, none⟩) (fun _ => rfl)
      rw [List.drop_zero] at hh
      exact hJa _ W (pow6_below (pow6_below hp hb2) hbW) hh
    have cR : ∀ W, Below w2.heap.size w2 W → Calls Tryz.prog 190 #[.slice A2 (8 - E) (8 - E)] W fun e w' => e = .returned (.string J2) ∧ Below W.heap.size W w' := by
      intro W hbW
      have hAW : RowA W ga a := Row.below hA2 hbW hA2.lt
      have hh := a8_part hAW HAL.out E (8 - E) (by have := HE8.out; omega) hAW.lt A2 hA20
      rw [List.take_of_length_le (by rw [List.length_drop, HAL.out]; exact Nat.le_refl _)] at hh
      exact hJb _ W (pow6_below (pow6_below hp hb2) hbW) hh
    have HB2 := Lib.hid hb2
    have hbX : Below w2.heap.size w2 w2.drew := (Below.refl _ _).drew
    have hcell := hA2.cell (k := 0) (by rw [HAL.out]; decide)
    clear hG hA hA2 hb2 hA2e hA20 hJa hJb h1 h2 c0 hb1
    go_wp2_with fail
    have htrue : True := trivial
    go_region_held3 (fun _ => True) (first | exact trivial | go_keep)
      (first
        | (go_at_call 190; (first | (with_reducible refine (cL _ hbX).mono ?_) | (with_reducible refine (cR _ hbX).mono ?_)); rintro r wA ⟨rfl, hbA'⟩; have hbA := hbX.trans (hbA'.mono hbX.size); clear hbX; have hbX := hbA))
    all_goals (go_wp2_with fail)
    all_goals go_ret
    all_goals exact ⟨by rw [HF.out]; rfl, HB2.out.trans (hbX.mono HB2.out.size)⟩
end

section
open Go.RowKit

theorem ne_empty {s : ByteArray} (h : ¬ s.size = 0) : (ls s).isEmpty = false := by
  cases hl : ls s with
  | nil => exact absurd (by rw [← ls_length, hl]; rfl) h
  | cons _ _ => rfl
theorem lab_zero {s : ByteArray} (h : s.size = 0) : labL (ls s) = false := by
  have : ls s = [] := List.eq_nil_of_length_eq_zero (by rw [ls_length]; exact h)
  rw [this]
  rfl
theorem lab_long {s : ByteArray} (h : 63 < s.size) : labL (ls s) = false := by
  unfold labL endsL
  rw [ls_length, decide_eq_false (p := s.size ≤ 63) (by omega)]
  simp
/-- What is left when the length and the ends are well. -/
def restLab (l : List UInt8) : Bool := l.all (fun b => okN b.toNat) && (decide (l.take 4 ≠ xnL) || propL (l.drop 4))
theorem u8_45 {c : UInt8} : c = 45 ↔ c.toNat = 45 := by
  constructor
  · rintro rfl; rfl
  · intro h; exact UInt8.toNat_inj.1 h
theorem lab_ends {s : ByteArray} {y0 y1 : Nat} (h : 0 < s.size) (h0 : y0 = (s[0]'h).toNat) (h1 : y1 = (s[s.size - 1]'(by omega)).toNat) :
    ((y0 = 45 ∨ y1 = 45) → labL (ls s) = false) ∧ ((y0 ≠ 45 ∧ y1 ≠ 45 ∧ s.size ≤ 63) → labL (ls s) = restLab (ls s)) := by
  have g0 : (ls s).head? = some (s[0]'h) := by rw [List.head?_eq_getElem?, ls_get s 0 h]
  have g1 : (ls s).getLast? = some (s[s.size - 1]'(by omega)) := by rw [List.getLast?_eq_getElem?, ls_length, ls_get s _ (by omega)]
  have hne : ls s ≠ [] := by
    intro e
    have := ls_length s
    rw [e] at this
    simp at this
    omega
  have e : endsL (ls s) = (decide (s.size ≤ 63) && decide (y0 ≠ 45) && decide (y1 ≠ 45)) := by
    unfold endsL
    rw [g0, g1, ls_length, decide_eq_true hne, Bool.true_and]
    congr 1
    · congr 1
      rw [decide_eq_decide]
      rw [h0, ne_eq, ne_eq, Option.some.injEq, u8_45]
    · rw [decide_eq_decide]
      rw [h1, ne_eq, ne_eq, Option.some.injEq, u8_45]
  refine ⟨?_, ?_⟩
  · intro hh
    unfold labL
    rw [e]
    rcases hh with hh | hh
    · simp [hh]
    · simp [hh]
  · rintro ⟨a, b, c⟩
    unfold labL restLab
    rw [e, decide_eq_true a, decide_eq_true b, decide_eq_true c]
    simp
/-- The bytes of a label, by the tests. -/
theorem lb_kind (y : Nat) : (97 ≤ y ∧ y ≤ 122 ∧ okN y = true) ∨ (48 ≤ y ∧ y ≤ 57 ∧ okN y = true) ∨ (y = 45 ∧ okN y = true) ∨ (y = 95 ∧ okN y = true) ∨
    (122 < y ∧ okN y = false) ∨ (y < 48 ∧ y ≠ 45 ∧ okN y = false) ∨ (57 < y ∧ y < 97 ∧ y ≠ 95 ∧ okN y = false) := by
  have e : okN y = (decide (97 ≤ y ∧ y ≤ 122) || decide (48 ≤ y ∧ y ≤ 57) || decide (y = 45) || decide (y = 95)) := by
    unfold okN
    simp only [Bool.decide_and]
    rfl
  rw [e]
  simp only [Bool.or_eq_true, decide_eq_true_eq, Bool.or_eq_false_iff, decide_eq_false_iff_not]
  omega
theorem okN_yes (y : Nat) : okN y = true ↔ (97 ≤ y ∧ y ≤ 122) ∨ (48 ≤ y ∧ y ≤ 57) ∨ y = 45 ∨ y = 95 := by
  unfold okN
  simp only [Bool.or_eq_true, Bool.and_eq_true, decide_eq_true_eq, beq_iff_eq]
  omega
theorem okN_no (y : Nat) : okN y = false ↔ ¬ ((97 ≤ y ∧ y ≤ 122) ∨ (48 ≤ y ∧ y ≤ 57) ∨ y = 45 ∨ y = 95) := by
  rw [← okN_yes, Bool.not_eq_true]
def okK (l : List UInt8) (k : Nat) : Bool := (l.take k).all (fun b => okN b.toNat)
theorem okK_succ (l : List UInt8) (k : Nat) (h : k < l.length) : okK l (k + 1) = (okK l k && okN (l[k]).toNat) := by
  unfold okK
  rw [List.take_succ_eq_append_getElem h, List.all_append]
  simp
theorem rest_bad {l : List UInt8} (k : Nat) (h : k < l.length) (hb : okN (l[k]).toNat = false) : restLab l = false := by
  have : l.all (fun b => okN b.toNat) = false := by
    rw [List.all_eq_false]
    exact ⟨l[k], List.getElem_mem h, by rw [hb]; simp⟩
  unfold restLab
  rw [this]
  rfl
theorem rest_all {l : List UInt8} (h : okK l l.length = true) : restLab l = (decide (l.take 4 ≠ xnL) || propL (l.drop 4)) := by
  unfold okK at h
  rw [List.take_length] at h
  unfold restLab
  rw [h, Bool.true_and]
theorem xn_short {l : List UInt8} (h : l.length < 4) : decide (l.take 4 ≠ xnL) = true := by
  rw [decide_eq_true_iff]
  intro e
  have := congrArg List.length e
  rw [List.length_take] at this
  unfold xnL at this
  simp at this
  omega
end

section
open Go.RowKit

/-- The decoder behind the numbers D of the encoding of P. -/
def stP (P D : List Nat) : PSt := (PSt.start (basicN P)).run D
theorem stP_len (P D : List Nat) : (stP P D).out.length = (basicN P).length + D.length := PSt.run_len D (PSt.start (basicN P))
theorem stP_snoc (P D : List Nat) (e : Nat) : stP P (D ++ [e]) = (stP P D).step e := by
  unfold stP
  rw [PSt.run_append]
  rfl
/-- Between two rounds: D is written, n and e are the encoder's. -/
structure EncAt (P D : List Nat) (n e : Nat) : Prop where
  syn : Syn [] P n e (stP P D)
  rest : ∃ f, P.length < f + (stP P D).out.length ∧ D ++ outD f P n e (stP P D).out.length = encDs P
/-- In a round at m, A of A ++ B is done. -/
structure RndAt (P D A B : List Nat) (m e : Nat) : Prop where
  all : A ++ B = P
  mem : ptN m = true
  syn : Syn A B m e (stP P D)
  rest : ∃ f, P.length < f + (stP P D).out.length + (inD m B e).1.length ∧ D ++ ((inD m B e).1 ++ outD f P (m + 1) ((inD m B e).2 + 1) ((stP P D).out.length + (inD m B e).1.length)) = encDs P
theorem EncAt.first (P : List Nat) : EncAt P [] 128 0 := by
  refine ⟨⟨rfl, ?_, Nat.le_refl _⟩, P.length + 1, by omega, rfl⟩
  simp [stP, PSt.run, PSt.start]
theorem EncAt.round {P D : List Nat} {n e : Nat} (hP : ∀ p ∈ P, ptN p = true) (h : EncAt P D n e) (hd : (stP P D).out.length < P.length) :
    n ≤ leastG n P ∧ leastG n P ≤ 1114111 ∧ leastG n P ∈ P ∧ RndAt P D [] P (leastG n P) (e + (leastG n P - n) * ((stP P D).out.length + 1)) := by
  have ho : (stP P D).out = P.filter (fun x => decide (x < n)) := by have := h.syn.out; rwa [List.filter_nil, List.nil_append] at this
  obtain ⟨hm, hnm, hfl⟩ := least_facts hP (by rw [← ho]; exact hd)
  obtain ⟨f, hf, hr⟩ := h.rest
  refine ⟨hnm, ptN_le (hP _ hm), hm, ?_⟩
  cases f with
  | zero => omega
  | succ f =>
    rw [outD, if_pos hd] at hr
    generalize leastG n P = m at *
    refine ⟨rfl, hP m hm, ?_, ?_⟩
    · refine ⟨by rw [hfl, ← ho]; rfl, ?_, by have := h.syn.le; omega⟩
      have := h.syn.cnt
      have hle := h.syn.le
      rw [show m - (stP P D).n = (m - n) + (n - (stP P D).n) by omega, Nat.add_mul]
      simp at this ⊢
      omega
    · refine ⟨f, ?_, hr⟩
      have i1 := inD_count m P (e + (m - n) * ((stP P D).out.length + 1))
      have : 0 < (P.filter (fun x => decide (x = m))).length := by
        rw [← List.countP_eq_length_filter, List.countP_pos_iff]
        exact ⟨m, hm, by simp⟩
      omega
theorem RndAt.skip {P D A B : List Nat} {p m e : Nat} (h : RndAt P D A (p :: B) m e) (hp : p < m) : RndAt P D (A ++ [p]) B m (e + 1) := by
  obtain ⟨f, hf, hr⟩ := h.rest
  have hx : inD m (p :: B) e = inD m B (e + 1) := by rw [inD, if_pos hp]
  rw [hx] at hf hr
  exact ⟨by rw [← h.all]; simp, h.mem, h.syn.less hp, f, hf, hr⟩
theorem RndAt.pass {P D A B : List Nat} {p m e : Nat} (h : RndAt P D A (p :: B) m e) (h1 : ¬ p < m) (h2 : p ≠ m) : RndAt P D (A ++ [p]) B m e := by
  obtain ⟨f, hf, hr⟩ := h.rest
  have hx : inD m (p :: B) e = inD m B e := by rw [inD, if_neg h1, if_neg h2]
  rw [hx] at hf hr
  exact ⟨by rw [← h.all]; simp, h.mem, h.syn.more h1 h2, f, hf, hr⟩
theorem RndAt.emit {P D A B : List Nat} {m e : Nat} (h : RndAt P D A (m :: B) m e) : RndAt P (D ++ [e]) (A ++ [m]) B m 0 := by
  obtain ⟨f, hf, hr⟩ := h.rest
  have hx : inD m (m :: B) e = (e :: (inD m B 0).1, (inD m B 0).2) := by rw [inD, if_neg (by omega), if_pos rfl]
  rw [hx] at hf hr
  refine ⟨by rw [← h.all]; simp, h.mem, ?_, f, ?_, ?_⟩
  · rw [stP_snoc]; exact h.syn.emit.2.2
  · rw [stP_snoc, PSt.step_len]
    simp only [List.length_cons] at hf
    omega
  · rw [stP_snoc, PSt.step_len]
    simp only [List.length_cons, List.cons_append] at hr
    rw [List.append_assoc, List.cons_append, List.nil_append, show (stP P D).out.length + 1 + (inD m B 0).1.length = (stP P D).out.length + ((inD m B 0).1.length + 1) by omega]
    exact hr
theorem RndAt.done {P D A : List Nat} {m e : Nat} (h : RndAt P D A [] m e) : EncAt P D (m + 1) (e + 1) := by
  obtain ⟨f, hf, hr⟩ := h.rest
  have hA : A = P := by rw [← h.all, List.append_nil]
  subst hA
  have ho : (stP A D).out = A.filter (fun x => decide (x ≤ m)) := by have := h.syn.out; rwa [List.filter_nil, List.append_nil] at this
  refine ⟨⟨by rw [filter_lt_succ, ho]; rfl, ?_, by have := h.syn.le; omega⟩, f, ?_, ?_⟩
  · have := h.syn.cnt
    rw [← ho] at this
    have hle := h.syn.le
    rw [show m + 1 - (stP A D).n = (m - (stP A D).n) + 1 by omega, Nat.add_mul]
    simp
    omega
  · simpa [inD] using hf
  · simpa [inD] using hr
theorem EncAt.fin {P D : List Nat} {n e : Nat} (h : EncAt P D n e) (hd : ¬ (stP P D).out.length < P.length) : encDs P = D := by
  obtain ⟨f, _, hr⟩ := h.rest
  cases f with
  | zero => rw [← hr, outD, List.append_nil]
  | succ f => rw [← hr, outD, if_neg hd, List.append_nil]
theorem Syn.small {A B : List Nat} {n e : Nat} {s : PSt} (h : Syn A B n e s) (hn : n ≤ 1114112) (hl : (A ++ B).length ≤ 256) : e ≤ 17179869184 := by
  have a1 := List.length_filter_le (fun x => decide (x ≤ n)) A
  have a2 := List.length_filter_le (fun x => decide (x < n)) B
  have ho : s.out.length ≤ 256 := by
    rw [h.out, List.length_append]
    rw [List.length_append] at hl
    omega
  rw [List.length_append] at hl
  have hm : (n - s.n) * (s.out.length + 1) ≤ 1114112 * 257 := Nat.mul_le_mul (by omega) (by omega)
  have := h.cnt
  omega
theorem EncAt.small {P D : List Nat} {n e : Nat} (h : EncAt P D n e) (hn : n ≤ 1114112) (hl : P.length ≤ 256) : e ≤ 17179869184 := h.syn.small hn (by simpa using hl)
theorem RndAt.small {P D A B : List Nat} {m e : Nat} (h : RndAt P D A B m e) (hl : P.length ≤ 256) : e ≤ 17179869184 := h.syn.small (by have := ptN_le h.mem; omega) (by rw [h.all]; exact hl)
/-- The bytes behind the numbers D. -/
def outB (P D : List Nat) : List UInt8 := (basicN P).map UInt8.ofNat ++ ((if basicN P = [] then [] else [45]) ++ digsOf D 72 (basicN P).length true)
def biasB (P D : List Nat) : Nat := biasOf D 72 (basicN P).length true
theorem outB_snoc (P D : List Nat) (e : Nat) : outB P (D ++ [e]) = outB P D ++ (genV e 0 (biasB P D)).map digB := by
  unfold outB biasB
  rw [digsOf_snoc]
  simp only [List.append_assoc]
theorem biasB_snoc (P D : List Nat) (e : Nat) : biasB P (D ++ [e]) = adp e ((stP P D).out.length + 1) D.isEmpty := by
  unfold biasB
  rw [biasOf_snoc, stP_len, Bool.true_and]
theorem outB_len {P D R : List Nat} (hP : ∀ p ∈ P, ptN p = true) (hl : P.length ≤ 256) (h : D ++ R = encDs P) : (outB P D).length ≤ 3400 := by
  have hs := ok_small _ _ (encDs_run hP hl).2
  have h1 := digsOf_len 11 D 72 (basicN P).length true (fun d hd => hs d (by rw [← h]; simp [hd]))
  have h2 := encDs_len hP hl
  rw [← h, List.length_append] at h2
  unfold outB
  rw [List.length_append, List.length_append, List.length_map]
  split
  · simp; omega
  · simp; omega
theorem EncAt.len {P D : List Nat} {n e : Nat} (h : EncAt P D n e) (hP : ∀ p ∈ P, ptN p = true) (hl : P.length ≤ 256) : (outB P D).length ≤ 3400 := by
  obtain ⟨f, _, hr⟩ := h.rest
  exact outB_len hP hl hr
theorem RndAt.len {P D A B : List Nat} {m e : Nat} (h : RndAt P D A B m e) (hP : ∀ p ∈ P, ptN p = true) (hl : P.length ≤ 256) : (outB P D).length ≤ 3400 := by
  obtain ⟨f, _, hr⟩ := h.rest
  exact outB_len hP hl hr
theorem bias_small : ∀ (D : List Nat) (bias done : Nat) (first : Bool), bias ≤ 1000 → (∀ d ∈ D, d < 10 ^ 11) → biasOf D bias done first ≤ 1000
  | [], bias, _, _, h, _ => h
  | d :: r, bias, done, first, _, h => by
    rw [biasOf]
    have e : (10 : Nat) ^ 11 = 100000000000 := by decide
    exact bias_small r _ _ _ (adp_le d (done + 1) first (by have := h d (by simp); omega)) (fun x hx => h x (by simp [hx]))
theorem biasB_le {P D R : List Nat} (hP : ∀ p ∈ P, ptN p = true) (hl : P.length ≤ 256) (h : D ++ R = encDs P) : biasB P D ≤ 1000 := by
  have hs := ok_small _ _ (encDs_run hP hl).2
  exact bias_small D 72 _ true (by omega) (fun d hd => hs d (by rw [← h]; simp [hd]))
theorem RndAt.bias {P D A B : List Nat} {m e : Nat} (h : RndAt P D A B m e) (hP : ∀ p ∈ P, ptN p = true) (hl : P.length ≤ 256) : biasB P D ≤ 1000 := by
  obtain ⟨f, _, hr⟩ := h.rest
  exact biasB_le hP hl hr
theorem RndAt.outlen {P D A B : List Nat} {m e : Nat} (h : RndAt P D A B m e) : (stP P D).out.length ≤ P.length := by
  have a1 := List.length_filter_le (fun x => decide (x ≤ m)) A
  have a2 := List.length_filter_le (fun x => decide (x < m)) B
  rw [h.syn.out, List.length_append, ← h.all, List.length_append]
  omega
theorem leastG_30 (n : Nat) : ∀ P : List Nat, leastG n P ≤ 1073741824
  | [] => Nat.le_refl _
  | p :: P => by
    rw [leastG]
    have := leastG_30 n P
    split
    · exact Nat.le_trans (Nat.min_le_right _ _) this
    · exact this
end

section
open Go.RowKit

theorem thr_int (k bias : Nat) : max (1 : Int) (min 26 (36 * ((k : Int) + 1) - (bias : Int))) = ((thr k bias : Nat) : Int) := by unfold thr; omega
theorem ptZ_nat (n : Nat) : ptZ (n : Int) = ptN n := by
  unfold ptZ
  rw [decide_eq_true (by omega)]
  rfl

theorem refPoint_any (z : Int) (w : World) :
    Calls Tryz.prog 131 #[.int .i64 z] w fun e w' => e = .returned (.bool (ptZ z)) ∧ w = w' := by
  by_cases h0 : 0 ≤ z
  · by_cases h1 : z ≤ 1114111
    · by_cases h2 : z < 55296
      · have HE : Hid (ptZ z = true) := by show _ = _; unfold ptZ ptN; simp; omega
        have d0 : decide ((0 : Int) ≤ z) = true := decide_eq_true h0
        have d1 : decide (z ≤ 1114111) = true := decide_eq_true h1
        have d2 : decide (z < 55296) = true := decide_eq_true h2
        go_enter Tryz.func131, Tryz.ntmps131
        go_wp2
        go_ret
        exact ⟨ret_bool HE.out.symm, rfl⟩
      · by_cases h3 : 57343 < z
        · have HE : Hid (ptZ z = true) := by show _ = _; unfold ptZ ptN; simp; omega
          have d0 : decide ((0 : Int) ≤ z) = true := decide_eq_true h0
          have d1 : decide (z ≤ 1114111) = true := decide_eq_true h1
          have d2 : decide (z < 55296) = false := decide_eq_false h2
          have d3 : decide ((57343 : Int) < z) = true := decide_eq_true h3
          go_enter Tryz.func131, Tryz.ntmps131
          go_wp2
          go_ret
          exact ⟨ret_bool HE.out.symm, rfl⟩
        · have HE : Hid (ptZ z = false) := by show _ = _; unfold ptZ ptN; simp; omega
          have d0 : decide ((0 : Int) ≤ z) = true := decide_eq_true h0
          have d1 : decide (z ≤ 1114111) = true := decide_eq_true h1
          have d2 : decide (z < 55296) = false := decide_eq_false h2
          have d3 : decide ((57343 : Int) < z) = false := decide_eq_false h3
          go_enter Tryz.func131, Tryz.ntmps131
          go_wp2
          go_ret
          exact ⟨ret_bool HE.out.symm, rfl⟩
    · have HE : Hid (ptZ z = false) := by show _ = _; unfold ptZ ptN; simp; omega
      have d0 : decide ((0 : Int) ≤ z) = true := decide_eq_true h0
      have d1 : decide (z ≤ 1114111) = false := decide_eq_false h1
      go_enter Tryz.func131, Tryz.ntmps131
      go_wp2
      go_ret
      exact ⟨ret_bool HE.out.symm, rfl⟩
  · have HE : Hid (ptZ z = false) := by show _ = _; unfold ptZ; simp; omega
    have d0 : decide ((0 : Int) ≤ z) = false := decide_eq_false h0
    go_enter Tryz.func131, Tryz.ntmps131
    go_wp2
    go_ret
    exact ⟨ret_bool HE.out.symm, rfl⟩

theorem refThr_any (k bias : Nat) (hk : k ≤ 1000000000) (hb : bias ≤ 1000000000) (w : World) :
    Calls Tryz.prog 132 #[.int .i64 (k : Int), .int .i64 (bias : Int)] w fun e w' => e = .returned (.int .i64 (thr k bias : Nat)) ∧ w = w' := by
  obtain ⟨x, hx⟩ : ∃ x, min (26 : Int) (36 * ((k : Int) + 1) - (bias : Int)) = x := ⟨_, rfl⟩
  have hy : max (1 : Int) x = (thr k bias : Nat) := by rw [← hx]; exact thr_int k bias
  have hmin : ∀ (W : World) ts ty, (Builtin.min_ ts ty #[.int .i64 26, .int .i64 (36 * ((k : Int) + 1) - (bias : Int))]).run Tryz.prog W = .ok (.int .i64 x) W := fun W ts ty => min_two W ts ty _ _ _ hx
  have hmax : ∀ (W : World) ts ty, (Builtin.max_ ts ty #[.int .i64 1, .int .i64 x]).run Tryz.prog W = .ok (.int .i64 (thr k bias : Nat)) W := fun W ts ty => max_two W ts ty _ _ _ hy
  clear hx hy
  go_enter Tryz.func132, Tryz.ntmps132
  go_wp2
  go_ret
  exact ⟨rfl, rfl⟩

theorem refDig_any (d : Nat) (hd : d < 36) (w : World) :
    Calls Tryz.prog 133 #[.int .i64 (d : Int)] w fun e w' => e = .returned (.int .u8 ((digB d).toNat : Int)) ∧ w = w' := by
  by_cases h : d < 26
  · have d1 : decide ((d : Int) < 26) = true := decide_eq_true (by omega)
    have HE : Hid (((digB d).toNat : Int) = 97 + (d : Int)) := by
      show _ = _
      unfold digB
      rw [if_pos h, UInt8.toNat_ofNat']
      omega
    go_enter Tryz.func133, Tryz.ntmps133
    go_wp2
    go_ret
    exact ⟨ret_int HE.out.symm, rfl⟩
  · have d1 : decide ((d : Int) < 26) = false := decide_eq_false (by omega)
    have HE : Hid (((digB d).toNat : Int) = 48 + (d : Int) - 26) := by
      show _ = _
      unfold digB
      rw [if_neg h, UInt8.toNat_ofNat']
      omega
    go_enter Tryz.func133, Tryz.ntmps133
    go_wp2
    go_ret
    exact ⟨ret_int HE.out.symm, rfl⟩

/-- The value of a digit, or -1. -/
def valZ (b : UInt8) : Int := match pval b with
  | some d => (d : Int)
  | none => -1
theorem refVal_any (b : UInt8) (w : World) :
    Calls Tryz.prog 171 #[.int .u8 (b.toNat : Int)] w fun e w' => e = .returned (.int .i64 (valZ b)) ∧ w = w' := by
  have hlt := b.toNat_lt
  by_cases h1 : 97 ≤ b.toNat ∧ b.toNat ≤ 122
  · have HE : Hid (valZ b = (b.toNat : Int) - 97) := by show _ = _; unfold valZ pval; rw [if_pos h1]; show ((b.toNat - 97 : Nat) : Int) = _; omega
    have d1 : decide ((97 : Int) ≤ (b.toNat : Int)) = true := decide_eq_true (by omega)
    have d2 : decide ((b.toNat : Int) ≤ 122) = true := decide_eq_true (by omega)
    go_enter Tryz.func171, Tryz.ntmps171
    go_wp2
    go_ret
    exact ⟨ret_int HE.out.symm, rfl⟩
  · by_cases h2 : 65 ≤ b.toNat ∧ b.toNat ≤ 90
    · have HE : Hid (valZ b = (b.toNat : Int) - 65) := by show _ = _; unfold valZ pval; rw [if_neg h1, if_pos h2]; show ((b.toNat - 65 : Nat) : Int) = _; omega
      have d1 : decide ((97 : Int) ≤ (b.toNat : Int)) = false := decide_eq_false (by omega)
      have d2 : decide ((65 : Int) ≤ (b.toNat : Int)) = true := decide_eq_true (by omega)
      have d3 : decide ((b.toNat : Int) ≤ 90) = true := decide_eq_true (by omega)
      go_enter Tryz.func171, Tryz.ntmps171
      go_wp2
      go_ret
      exact ⟨ret_int HE.out.symm, rfl⟩
    · by_cases h3 : 48 ≤ b.toNat ∧ b.toNat ≤ 57
      · have HE : Hid (valZ b = (b.toNat : Int) - 48 + 26) := by show _ = _; unfold valZ pval; rw [if_neg h1, if_neg h2, if_pos h3]; show ((b.toNat - 22 : Nat) : Int) = _; omega
        have d1 : decide ((97 : Int) ≤ (b.toNat : Int)) = false := decide_eq_false (by omega)
        have d2 : decide ((65 : Int) ≤ (b.toNat : Int)) = false := decide_eq_false (by omega)
        have d3 : decide ((48 : Int) ≤ (b.toNat : Int)) = true := decide_eq_true (by omega)
        have d4 : decide ((b.toNat : Int) ≤ 57) = true := decide_eq_true (by omega)
        go_enter Tryz.func171, Tryz.ntmps171
        go_wp2
        go_ret
        exact ⟨ret_int HE.out.symm, rfl⟩
      · have HE : Hid (valZ b = -1) := by show _ = _; unfold valZ pval; rw [if_neg h1, if_neg h2, if_neg h3]
        have c1 : (decide ((97 : Int) ≤ (b.toNat : Int)) && decide ((b.toNat : Int) ≤ 122)) = false := by rw [Bool.and_eq_false_iff, decide_eq_false_iff_not, decide_eq_false_iff_not]; omega
        have c2 : (decide ((65 : Int) ≤ (b.toNat : Int)) && decide ((b.toNat : Int) ≤ 90)) = false := by rw [Bool.and_eq_false_iff, decide_eq_false_iff_not, decide_eq_false_iff_not]; omega
        have c3 : (decide ((48 : Int) ≤ (b.toNat : Int)) && decide ((b.toNat : Int) ≤ 57)) = false := by rw [Bool.and_eq_false_iff, decide_eq_false_iff_not, decide_eq_false_iff_not]; omega
        go_enter Tryz.func171, Tryz.ntmps171
        go_wp2
        all_goals (go_ret; exact ⟨ret_int HE.out.symm, rfl⟩)

set_option maxHeartbeats 800000 in
theorem refAdp_any (delta n : Nat) (first : Bool) (hd : delta ≤ 2199023255552) (hn : 1 ≤ n) (hn2 : n ≤ 1000000000) (w : World) :
    Calls Tryz.prog 134 #[.int .i64 (delta : Int), .int .i64 (n : Int), .bool first] w fun e w' => e = .returned (.int .i64 (adp delta n first : Nat)) ∧ w = w' := by
  obtain ⟨R, hR⟩ : ∃ R, R = adp delta n first := ⟨_, rfl⟩
  rw [← hR]
  have e700 : Int.tdiv (delta : Int) 700 = ((delta / 700 : Nat) : Int) := by rw [Int.tdiv_eq_ediv_of_nonneg (by omega)]; omega
  have e2 : Int.tdiv (delta : Int) 2 = ((delta / 2 : Nat) : Int) := by rw [Int.tdiv_eq_ediv_of_nonneg (by omega)]; omega
  have key : ∀ d0 : Nat, d0 ≤ 1099511627776 → Int.tdiv (d0 : Int) (n : Int) = ((d0 / n : Nat) : Int) := by
    intro d0 _
    rw [Int.tdiv_eq_ediv_of_nonneg (by omega)]
    exact (Int.natCast_ediv d0 n).symm
  have hn0 : ¬ (n : Int) = 0 := by omega
  cases first with
  | true =>
    obtain ⟨d0, hd0⟩ : ∃ d0 : Nat, d0 = delta / 700 := ⟨_, rfl⟩
    have hb0 : d0 ≤ 1099511627776 := by omega
    have k0 := key d0 hb0
    obtain ⟨q, hq⟩ : ∃ q : Nat, q = d0 / n := ⟨_, rfl⟩
    have hqb : q ≤ d0 := by rw [hq]; exact Nat.div_le_self _ _
    rw [← hq] at k0
    rw [← hd0] at e700
    have HA : Hid (adpGo (d0 + q) 0 = R) := Lib.hid (by rw [hR, hq, hd0]; rfl)
    clear key hq hd0 hR e2
    go_enter Tryz.func134, Tryz.ntmps134
    go_wp2
    go_loop [0, 7] (fun d k => ∃ D K : Nat, d = .int .i64 D ∧ k = .int .i64 K ∧ K + D ≤ 4398046511104 ∧ Hid (adpGo D K = R)) (fun d _ => (intOf d).toNat)
    case atStart => exact ⟨d0 + q, 0, by go_num, rfl, by omega, HA⟩
    case round =>
      obtain ⟨D, K, rfl, rfl, hDK, HG⟩ := hrel
      by_cases h455 : 455 < D
      · have hc : decide ((455 : Int) < (D : Int)) = true := decide_eq_true (by omega)
        have h35 : Int.tdiv (D : Int) 35 = ((D / 35 : Nat) : Int) := by rw [Int.tdiv_eq_ediv_of_nonneg (by omega)]; omega
        have HG2 : Hid (adpGo (D / 35) (K + 36) = R) := by
          show _ = _
          rw [← HG.out, adpGo.eq_def D K, if_pos h455]
        go_wp2
        go_round
        case rel => exact ⟨D / 35, K + 36, by go_num, by go_num, by omega, HG2⟩
        case measure => simp [intOf]; omega
      · have hc : decide ((455 : Int) < (D : Int)) = false := decide_eq_false (by omega)
        have h38 : Int.tdiv (36 * (D : Int)) ((D : Int) + 38) = ((36 * D / (D + 38) : Nat) : Int) := by
          rw [Int.tdiv_eq_ediv_of_nonneg (by omega)]
          exact (Int.natCast_ediv (36 * D) (D + 38)).symm
        have hq2 : 36 * D / (D + 38) ≤ 36 := by
          refine Nat.div_le_of_le_mul ?_
          rw [Nat.add_mul]
          omega
        have hne : ¬ (D : Int) + 38 = 0 := by omega
        have HG2 : Hid (((K + 36 * D / (D + 38) : Nat) : Int) = (R : Int)) := by
          show _ = _
          rw [← HG.out, adpGo.eq_def D K, if_neg h455]
        obtain ⟨z, hz⟩ : ∃ z, z = 36 * D / (D + 38) := ⟨_, rfl⟩
        rw [← hz] at h38 hq2 HG2
        clear hz
        go_wp2
        go_ret
        exact ⟨ret_int (by rw [← HG2.out]; omega), rfl⟩
  | false =>
    obtain ⟨d0, hd0⟩ : ∃ d0 : Nat, d0 = delta / 2 := ⟨_, rfl⟩
    have hb0 : d0 ≤ 1099511627776 := by omega
    have k0 := key d0 hb0
    obtain ⟨q, hq⟩ : ∃ q : Nat, q = d0 / n := ⟨_, rfl⟩
    have hqb : q ≤ d0 := by rw [hq]; exact Nat.div_le_self _ _
    rw [← hq] at k0
    rw [← hd0] at e2
    have HA : Hid (adpGo (d0 + q) 0 = R) := Lib.hid (by rw [hR, hq, hd0]; rfl)
    clear key hq hd0 hR e700
    go_enter Tryz.func134, Tryz.ntmps134
    go_wp2
    go_loop [0, 7] (fun d k => ∃ D K : Nat, d = .int .i64 D ∧ k = .int .i64 K ∧ K + D ≤ 4398046511104 ∧ Hid (adpGo D K = R)) (fun d _ => (intOf d).toNat)
    case atStart => exact ⟨d0 + q, 0, by go_num, rfl, by omega, HA⟩
    case round =>
      obtain ⟨D, K, rfl, rfl, hDK, HG⟩ := hrel
      by_cases h455 : 455 < D
      · have hc : decide ((455 : Int) < (D : Int)) = true := decide_eq_true (by omega)
        have h35 : Int.tdiv (D : Int) 35 = ((D / 35 : Nat) : Int) := by rw [Int.tdiv_eq_ediv_of_nonneg (by omega)]; omega
        have HG2 : Hid (adpGo (D / 35) (K + 36) = R) := by
          show _ = _
          rw [← HG.out, adpGo.eq_def D K, if_pos h455]
        go_wp2
        go_round
        case rel => exact ⟨D / 35, K + 36, by go_num, by go_num, by omega, HG2⟩
        case measure => simp [intOf]; omega
      · have hc : decide ((455 : Int) < (D : Int)) = false := decide_eq_false (by omega)
        have h38 : Int.tdiv (36 * (D : Int)) ((D : Int) + 38) = ((36 * D / (D + 38) : Nat) : Int) := by
          rw [Int.tdiv_eq_ediv_of_nonneg (by omega)]
          exact (Int.natCast_ediv (36 * D) (D + 38)).symm
        have hq2 : 36 * D / (D + 38) ≤ 36 := by
          refine Nat.div_le_of_le_mul ?_
          rw [Nat.add_mul]
          omega
        have hne : ¬ (D : Int) + 38 = 0 := by omega
        have HG2 : Hid (((K + 36 * D / (D + 38) : Nat) : Int) = (R : Int)) := by
          show _ = _
          rw [← HG.out, adpGo.eq_def D K, if_neg h455]
        obtain ⟨z, hz⟩ : ∃ z, z = 36 * D / (D + 38) := ⟨_, rfl⟩
        rw [← hz] at h38 hq2 HG2
        clear hz
        go_wp2
        go_ret
        exact ⟨ret_int (by rw [← HG2.out]; omega), rfl⟩
end

section
open Go.RowKit

/-- A number in a cell. -/
abbrev iv (n : Nat) : Value := .int .i64 (n : Int)
theorem cell_iv {w wr : World} {B b off len : Nat} {P : List Nat} (h : Has w B (some ⟨b, off, none⟩) len (P.map iv)) (hb : Below w.heap.size w wr) (hB : B ≤ w.heap.size) (k : Nat) (hk : k < len) (hk2 : k < P.length) : wr.cell? ⟨b, off + k, none⟩ = some (.int .i64 (P[k] : Int)) := by
  obtain ⟨b', off', e, hlt, hc⟩ := h.at_ hk
  injection e with e
  injection e with e1 e2 _
  subst e1 e2
  rw [hb.cell (p := ⟨b, off + k, none⟩) (Nat.lt_of_lt_of_le hlt hB), hc, List.getElem_map]
theorem basicN_take (P : List Nat) (k : Nat) (hk : k < P.length) : basicN (P.take (k + 1)) = basicN (P.take k) ++ (if P[k] < 128 then [P[k]] else []) := by
  rw [List.take_succ_eq_append_getElem hk]
  unfold basicN
  rw [List.filter_append]
  congr 1
  split
  · rename_i h; simp [h]
  · rename_i h; simp [h]
theorem basicN_len (P : List Nat) : (basicN P).length ≤ P.length := List.length_filter_le _ _
theorem bv_ofNat {p : Nat} (h : p < 128) : bv (UInt8.ofNat p) = .int .u8 (p : Int) := by rw [bv_eq, ofNat_toNat h]
theorem outB_nil (P : List Nat) : outB P [] = (basicN P).map UInt8.ofNat ++ (if basicN P = [] then [] else [45]) := by unfold outB; rw [digsOf, List.append_nil]
theorem bias_nil (P : List Nat) : biasB P [] = 72 := rfl
theorem stP_nil (P : List Nat) : (stP P []).out.length = (basicN P).length := rfl

set_option maxRecDepth 20000 in
set_option maxHeartbeats 8000000 in
theorem refEnc_ok (P : List Nat) (hP : ∀ p ∈ P, ptN p = true) (hl : P.length ≤ 256) (A : Option Addr) (len cap B : Nat) (w : World) (hA : Has w B A len (P.map iv)) (hB : B ≤ w.heap.size) :
    Calls Tryz.prog 94 #[.slice A len cap] w fun e w' => e = .returned (.tuple #[.string (bs (encB P)), .int .i64 0]) ∧ Below w.heap.size w w' := by
  obtain ⟨i5, hi5, hz0, hz1, hz2⟩ := info_parts infoU8
  have hlen : len = P.length := by have := hA.1; simpa using this.symm
  subst hlen
  have H := Lib.hid hA
  have HP := Lib.hid hP
  clear hA hP
  have hd256 : decide ((256 : Int) < (P.length : Int)) = false := decide_eq_false (by omega)
  go_enter Tryz.func94, Tryz.ntmps94
  go_wp2
  go_loopw [4, 5] (fun v i wr => ∃ (k : Nat) (O : List Nat), k ≤ P.length ∧ i = .int .i64 k ∧ Hid (O = basicN (P.take k)) ∧ O.length ≤ 256 ∧ wr.ownsRow w.heap.size 5 1 v O.length ((O.map UInt8.ofNat).map bv) ∧ Below w.heap.size w wr) (fun _ i _ => P.length - (intOf i).toNat)
  case atStart => exact ⟨0, [], Nat.zero_le _, rfl, Lib.hid rfl, by simp, World.ownsRow_nil _ _ _ _, Below.refl _ _⟩
  case round =>
    obtain ⟨k, O, hk, rfl, HO, hOl, hown, hb⟩ := hrel
    by_cases hlt : k < P.length
    · obtain ⟨b1, o1, rfl, l1, d1⟩ := H.out.2 (by omega)
      have g1 := cell_iv H.out hb hB k hlt hlt
      have hpt : ptZ ((P[k] : Nat) : Int) = true := by rw [ptZ_nat]; exact HP.out _ (List.getElem_mem hlt)
      have hple : P[k] ≤ 1114111 := ptN_le (HP.out _ (List.getElem_mem hlt))
      have c1 := refPoint_any ((P[k] : Nat) : Int)
      have hbt := basicN_take P k hlt
      have hbl := basicN_len (P.take (k + 1))
      have hbl2 : (P.take (k + 1)).length ≤ 256 := by rw [List.length_take]; omega
      obtain ⟨p, hp⟩ : ∃ p, p = P[k] := ⟨_, rfl⟩
      rw [← hp] at g1 c1 hple hbt hpt
      rw [hpt] at c1
      rw [← HO.out] at hbt
      clear d1 hp hpt
      by_cases h128 : p < 128
      · have hd : decide ((p : Int) < 128) = true := decide_eq_true (by omega)
        rw [if_pos h128] at hbt
        have HBV := Lib.hid (bv_ofNat h128)
        have HO2 := Lib.hid hbt.symm
        rw [hbt, List.length_append, List.length_singleton] at hbl
        clear hbt
        go_wp2_with (first | (go_at_call 131; refine (c1 _).mono ?_; rintro e w' ⟨rfl, rfl⟩) | (at_builtin; refine wpList_app_one wr rfl _ _ 40 rfl w.heap.size 5 i5 (.int .u8 0) 1 tyBs hi5 hz0 hz1 hz2 rfl _ (by exact rfl) _ _ _ (by exact rfl) hown (by exact rfl) (by unfold maxLen; omega) (by omega) hb (Nat.le_refl _) ?_; intro v' w' hown' hb' _))
        go_roundw
        case rel =>
          refine ⟨k + 1, O ++ [p], by omega, by go_num, HO2, by simp; omega, ?_, hb'⟩
          rw [List.map_append, List.map_append, List.length_append]
          simp only [List.map_cons, List.map_nil, HBV.out, List.length_singleton]
          exact hown'
        case measure => simp [intOf]; omega
      · have hd : decide ((p : Int) < 128) = false := decide_eq_false (by omega)
        rw [if_neg h128, List.append_nil] at hbt
        have HO2 := Lib.hid hbt.symm
        clear hbt
        go_wp2_with (go_at_call 131; refine (c1 _).mono ?_; rintro e w' ⟨rfl, rfl⟩)
        go_roundw
        case rel => exact ⟨k + 1, O, by omega, by go_num, HO2, hOl, hown, hb⟩
        case measure => simp [intOf]; omega
    · obtain rfl : k = P.length := by omega
      have HO2 : Hid (O = basicN P) := by show _ = _; rw [HO.out, List.take_length]
      clear HO
      obtain ⟨A4, c4, rfl, _, _⟩ := Has.of_own hown
      have hO0 : (basicN P = []) = (O = []) := by rw [HO2.out]
      go_upto_if 50 with fail
      go_cut [4] from 50 to 53 (fun v wx => ∃ X : List UInt8, Hid (X = outB P []) ∧ X.length ≤ 257 ∧ wx.ownsRow w.heap.size 5 1 v X.length (X.map bv) ∧ Below w.heap.size w wx)
      case first =>
        by_cases h0 : O = []
        · have hd0 : decide ((0 : Int) < (O.length : Int)) = false := by rw [h0]; rfl
          have hdN : ¬ (0 < O.length) := by rw [h0]; simp
          have hdB : decide (0 < O.length) = false := by rw [h0]; rfl
          go_wp2_with fail
          go_meet
          refine ⟨O.map UInt8.ofNat, ?_, by simp; omega, ?_, hb⟩
          · show _ = _
            rw [outB_nil, ← HO2.out, if_pos h0, List.append_nil]
          · rw [List.length_map]
            exact hown
        · have hdN : 0 < O.length := List.length_pos_iff.2 h0
          have hd0 : decide ((0 : Int) < (O.length : Int)) = true := decide_eq_true (by omega)
          have hdB : decide (0 < O.length) = true := decide_eq_true hdN
          go_wp2_with (at_builtin; refine wpList_app_one wr rfl _ _ 40 rfl w.heap.size 5 i5 (.int .u8 0) 1 tyBs hi5 hz0 hz1 hz2 rfl _ (by exact rfl) _ _ _ (by exact rfl) hown (by exact rfl) (by unfold maxLen; omega) (by omega) hb (Nat.le_refl _) ?_; intro v' w' hown' hb' _)
          go_meet
          refine ⟨O.map UInt8.ofNat ++ [45], ?_, by simp; omega, ?_, hb'⟩
          · show _ = _
            rw [outB_nil, ← HO2.out, if_neg h0]
          · rw [List.map_append, List.length_append, List.length_map]
            exact hown'
      case rest =>
      obtain ⟨X, HX, hXl, hown2, hb2⟩ := hcut
      have hbas : O.length = (basicN P).length := by rw [HO2.out]
      obtain ⟨bas, hbs⟩ : ∃ bas, bas = O.length := ⟨_, rfl⟩
      rw [← hbs] at hOl hbas ⊢
      have HBAS := Lib.hid hbas
      clear hown hb hO0 HO2 hbs hbas
      go_wp2_with fail
      go_loopg [4, 6, 8, 9, 10] (P.length - bas) (fun g v dn nn ee bi wr => ∃ (D : List Nat) (d0 n0 e0 b0 : Nat) (X : List UInt8), g = P.length - d0 ∧ dn = .int .i64 d0 ∧ nn = .int .i64 n0 ∧ ee = .int .i64 e0 ∧ bi = .int .i64 b0 ∧ d0 ≤ 256 ∧ n0 ≤ 1114112 ∧ e0 ≤ 17179869184 ∧ b0 ≤ 1000 ∧ X.length ≤ 3400 ∧
        Hid (EncAt P D n0 e0) ∧ Hid (d0 = (stP P D).out.length) ∧ Hid (b0 = biasB P D) ∧ Hid (X = outB P D) ∧ wr.ownsRow w.heap.size 5 1 v X.length (X.map bv) ∧ Below w.heap.size w wr)
      case atStart => exact ⟨[], bas, 128, 0, 72, X, rfl, rfl, rfl, rfl, rfl, hOl, by omega, by omega, by omega, by omega, Lib.hid (EncAt.first P), HBAS, Lib.hid rfl, HX, hown2, hb2⟩
      case round =>
        clear hown2 hb2 HX hXl
        obtain ⟨D, d0, n0, e0, b0, X, hg, rfl, rfl, rfl, rfl, hd0, hn0, he0, hb0, hXl, HE, HD, HBI, HX, hown, hb⟩ := hrel
        have HG := Lib.hid hg
        clear hg
        by_cases hlt0 : d0 < P.length
        · have hdl : decide ((d0 : Int) < (P.length : Int)) = true := decide_eq_true (by omega)
          have hrnd := HE.out.round HP.out (by rw [← HD.out]; exact hlt0)
          obtain ⟨m, hm⟩ : ∃ m, m = leastG n0 P := ⟨_, rfl⟩
          rw [← hm, ← HD.out] at hrnd
          obtain ⟨hnm, hm11, hmem, hR⟩ := hrnd
          have HM := Lib.hid hm
          have HMEM := Lib.hid hmem
          obtain ⟨e1, he1⟩ : ∃ e1, e1 = e0 + (m - n0) * (d0 + 1) := ⟨_, rfl⟩
          rw [← he1] at hR
          have hmul : ((m : Int) - (n0 : Int)) * ((d0 : Int) + 1) = (((m - n0) * (d0 + 1) : Nat) : Int) := by
            rw [Int.natCast_mul, Int.natCast_sub hnm, Int.natCast_add]
            rfl
          have hmb : (m - n0) * (d0 + 1) ≤ 1114111 * 257 := Nat.mul_le_mul (by omega) (by omega)
          have hm0 : 0 ≤ ((m : Int) - (n0 : Int)) * ((d0 : Int) + 1) := by omega
          have hm1 : ((m : Int) - (n0 : Int)) * ((d0 : Int) + 1) ≤ 286326527 := by omega
          have hsum : (e0 : Int) + ((m : Int) - (n0 : Int)) * ((d0 : Int) + 1) = (e1 : Int) := by omega
          have HSUM := Lib.hid hsum
          have he1b := hR.small hl
          have HR := Lib.hid hR
          clear hmul hmb hsum he1 hR hm hmem
          go_wp2_with fail
          obtain ⟨wo, rfl⟩ : ∃ wo : World, wo = wr := ⟨_, rfl⟩
          obtain ⟨go, rfl⟩ : ∃ go : Nat, go = gk := ⟨_, rfl⟩
          go_loopg [11, 12] P.length (fun g l i wr => ∃ (k v : Nat), wr = wo ∧ k ≤ P.length ∧ g = P.length - k ∧ i = .int .i64 k ∧ l = .int .i64 v ∧ v ≤ 1073741824 ∧ Hid (min v (leastG n0 (P.drop k)) = m))
          case atStart => exact ⟨0, 1073741824, rfl, Nat.zero_le _, rfl, rfl, rfl, Nat.le_refl _, Lib.hid (by rw [List.drop_zero, Nat.min_eq_right (leastG_30 n0 P), HM.out])⟩
          case round =>
            obtain ⟨k, v, rfl, hk, hg3, rfl, rfl, hv, HV⟩ := hrel
            have HG3 := Lib.hid hg3
            clear hg3
            by_cases hlt2 : k < P.length
            · obtain ⟨b1, o1, rfl, l1, d1⟩ := H.out.2 (by omega)
              have g1 := cell_iv H.out hb hB k hlt2 hlt2
              have hple : P[k] ≤ 1114111 := ptN_le (HP.out _ (List.getElem_mem hlt2))
              have hdr : P.drop k = P[k] :: P.drop (k + 1) := List.drop_eq_getElem_cons hlt2
              obtain ⟨p, hp⟩ : ∃ p, p = P[k] := ⟨_, rfl⟩
              rw [← hp] at g1 hple hdr
              have hkd : decide ((k : Int) < (P.length : Int)) = true := decide_eq_true (by omega)
              clear d1 hp
              by_cases hge : n0 ≤ p
              · have hgd : decide ((n0 : Int) ≤ (p : Int)) = true := decide_eq_true (by omega)
                have hgN : decide (n0 ≤ p) = true := decide_eq_true hge
                obtain ⟨v2, hv2⟩ : ∃ v2 : Nat, v2 = min v p := ⟨_, rfl⟩
                have hmi : min (v : Int) (p : Int) = (v2 : Int) := by rw [hv2]; omega
                have hmin : ∀ (W : World) ts ty, (Builtin.min_ ts ty #[.int .i64 (v : Int), .int .i64 (p : Int)]).run Tryz.prog W = .ok (.int .i64 (v2 : Int)) W := fun W ts ty => min_two W ts ty _ _ _ hmi
                have HV2 : Hid (min v2 (leastG n0 (P.drop (k + 1))) = m) := by
                  show _ = _
                  have := HV.out
                  rw [hdr, leastG, if_pos hge] at this
                  rw [hv2, Nat.min_assoc]
                  exact this
                have hv2b : v2 ≤ 1073741824 := by rw [hv2]; exact Nat.le_trans (Nat.min_le_left _ _) hv
                clear hmi hv2 hdr hge
                go_wp2
                go_roundg (P.length - (k + 1))
                case rel => exact ⟨k + 1, v2, rfl, by omega, rfl, by go_num, rfl, hv2b, HV2⟩
                case measure => rw [HG3.out]; omega
              · have hgd : decide ((n0 : Int) ≤ (p : Int)) = false := decide_eq_false (by omega)
                have hgN : decide (n0 ≤ p) = false := decide_eq_false hge
                have HV2 : Hid (min v (leastG n0 (P.drop (k + 1))) = m) := by
                  show _ = _
                  have := HV.out
                  rw [hdr, leastG, if_neg hge] at this
                  exact this
                clear hdr
                go_wp2
                go_roundg (P.length - (k + 1))
                case rel => exact ⟨k + 1, v, rfl, by omega, rfl, by go_num, rfl, hv, HV2⟩
                case measure => rw [HG3.out]; omega
            · obtain rfl : k = P.length := by omega
              have hvm : v = m := by
                have := HV.out
                rw [List.drop_length, leastG, Nat.min_eq_left hv] at this
                exact this
              subst v
              have hkd : decide ((P.length : Int) < (P.length : Int)) = false := by simp
              go_wp2_with fail
              obtain ⟨go2, rfl⟩ : ∃ go2 : Nat, go2 = gk := ⟨_, rfl⟩
              go_loopg [4, 6, 9, 10, 13] P.length (fun g v dn ee bi i wr => ∃ (k : Nat) (D : List Nat) (d1 e1 b1 : Nat) (X : List UInt8), k ≤ P.length ∧ g = P.length - k ∧ i = .int .i64 k ∧ dn = .int .i64 d1 ∧ ee = .int .i64 e1 ∧ bi = .int .i64 b1 ∧ d1 ≤ 256 ∧ e1 ≤ 17179869184 ∧ b1 ≤ 1000 ∧ X.length ≤ 3400 ∧
                Hid (RndAt P D (P.take k) (P.drop k) m e1) ∧ Hid (d1 = (stP P D).out.length) ∧ Hid (b1 = biasB P D) ∧ Hid (X = outB P D) ∧ Hid (d0 < d1 + ((P.drop k).filter (fun x => decide (x = m))).length) ∧ wr.ownsRow w.heap.size 5 1 v X.length (X.map bv) ∧ Below w.heap.size w wr)
              case atStart =>
                refine ⟨0, D, d0, e1, b0, X, Nat.zero_le _, rfl, rfl, rfl, congrArg (Value.int .i64) HSUM.out, rfl, hd0, he1b, hb0, hXl, ?_, HD, HBI, HX, ?_, hown, hb⟩
                · show RndAt _ _ _ _ _ _
                  rw [List.drop_zero, List.take_zero]
                  exact HR.out
                · show _ < _
                  rw [List.drop_zero]
                  have : 0 < (P.filter (fun x => decide (x = m))).length := by
                    rw [← List.countP_eq_length_filter, List.countP_pos_iff]
                    exact ⟨m, HMEM.out, by simp⟩
                  omega
              case round =>
                clear hown hb HX hXl
                obtain ⟨k, D, d1, e1, b1, X, hk, hg4, rfl, rfl, rfl, rfl, hd1, he1, hb1, hXl, HR, HD1, HB1, HX, HCNT, hown, hb⟩ := hrel
                have HG4 := Lib.hid hg4
                clear hg4
                by_cases hlt4 : k < P.length
                · obtain ⟨b', o1, rfl, l1, dd1⟩ := H.out.2 (by omega)
                  have g1 := cell_iv H.out hb hB k hlt4 hlt4
                  have hple : P[k] ≤ 1114111 := ptN_le (HP.out _ (List.getElem_mem hlt4))
                  have hdr : P.drop k = P[k] :: P.drop (k + 1) := List.drop_eq_getElem_cons hlt4
                  have htk : P.take (k + 1) = P.take k ++ [P[k]] := List.take_succ_eq_append_getElem hlt4
                  obtain ⟨p, hp⟩ : ∃ p, p = P[k] := ⟨_, rfl⟩
                  rw [← hp] at g1 hple hdr htk
                  have hkd : decide ((k : Int) < (P.length : Int)) = true := decide_eq_true (by omega)
                  have hR2 := HR.out
                  rw [hdr] at hR2
                  have hcnt := HCNT.out
                  rw [hdr] at hcnt
                  clear dd1 hp
                  by_cases hpm : p < m
                  · have hpd : decide ((p : Int) < (m : Int)) = true := decide_eq_true (by omega)
                    have hpN : decide (p < m) = true := decide_eq_true hpm
                    have hne : ((p : Int) != (m : Int)) = true := by rw [bne_iff_ne]; omega
                    have hneN : (p != m) = true := by rw [bne_iff_ne]; omega
                    have hR3 := hR2.skip hpm
                    rw [← htk] at hR3
                    have he3 := hR3.small hl
                    have HR3 := Lib.hid hR3
                    have HC3 : Hid (d0 < d1 + ((P.drop (k + 1)).filter (fun x => decide (x = m))).length) := by
                      show _ < _
                      rw [List.filter_cons_of_neg (by simp; omega)] at hcnt
                      exact hcnt
                    clear hR2 hR3 hcnt hdr htk
                    go_wp2
                    go_roundg (P.length - (k + 1))
                    case rel => exact ⟨k + 1, D, d1, e1 + 1, b1, X, by omega, rfl, by go_num, rfl, by go_num, rfl, hd1, he3, hb1, hXl, HR3, HD1, HB1, HX, HC3, hown, hb⟩
                    case measure => rw [HG4.out]; omega
                  · by_cases hpe : p = m
                    · subst hpe
                      have hpd : decide ((p : Int) < (p : Int)) = false := by simp
                      have hne : ((p : Int) != (p : Int)) = false := by simp
                      have hR3 := hR2.emit
                      rw [← htk] at hR3
                      have hol := hR3.outlen
                      have hXl3 := hR3.len HP.out hl
                      have hb3 := hR3.bias HP.out hl
                      have HR3 := Lib.hid hR3
                      have hst : (stP P (D ++ [e1])).out.length = d1 + 1 := by rw [stP_snoc, PSt.step_len, HD1.out]
                      rw [hst] at hol
                      have HST := Lib.hid hst
                      have HC3 : Hid (d0 < d1 + 1 + ((P.drop (k + 1)).filter (fun x => decide (x = p))).length) := by
                        show _ < _
                        rw [List.filter_cons_of_pos (by simp), List.length_cons] at hcnt
                        omega
                      have hfst : ((d1 : Int) == (bas : Int)) = D.isEmpty := by
                        rw [HD1.out, stP_len, HBAS.out]
                        cases D with
                        | nil => simp
                        | cons x D => simp; omega
                      have hfsN : (d1 == bas) = D.isEmpty := by
                        rw [HD1.out, stP_len, HBAS.out]
                        cases D with
                        | nil => simp
                        | cons x D => simp
                      have hbn : biasB P (D ++ [e1]) = adp e1 (d1 + 1) D.isEmpty := by rw [biasB_snoc, HD1.out]
                      have hXn : outB P (D ++ [e1]) = X ++ (genV e1 0 b1).map digB := by rw [outB_snoc, HX.out, HB1.out]
                      have cA := refAdp_any e1 (d1 + 1) D.isEmpty (by omega) (by omega) (by omega)
                      rw [← hbn] at cA
                      obtain ⟨b2, hb2⟩ : ∃ b2, b2 = biasB P (D ++ [e1]) := ⟨_, rfl⟩
                      rw [← hb2] at cA hb3
                      rw [show ((d1 + 1 : Nat) : Int) = (d1 : Int) + 1 by omega] at cA
                      have HB2 := Lib.hid hb2
                      have HXN := Lib.hid hXn
                      generalize D.isEmpty = fst at *
                      have hgl : (genV e1 0 b1).length ≤ 12 := genV_len 11 e1 0 b1 (Nat.lt_of_le_of_lt he1 (by decide))
                      have HGL := Lib.hid hgl
                      clear hR2 hR3 hcnt hdr htk hst hbn hXn hb2 hgl
                      go_wp2_with fail
                      obtain ⟨go3, rfl⟩ : ∃ go3 : Nat, go3 = gk := ⟨_, rfl⟩
                      go_loopg [4, 14, 15] (e1 + 1) (fun g v qq kk wr => ∃ (Q K : Nat) (L : List Nat), g = Q + 1 ∧ qq = .int .i64 Q ∧ kk = .int .i64 K ∧ Q ≤ 17179869184 ∧ K ≤ 12 ∧ Hid (K = L.length) ∧ Hid (L ++ genV Q K b1 = genV e1 0 b1) ∧
                        wr.ownsRow w.heap.size 5 1 v (X.length + K) ((X ++ L.map digB).map bv) ∧ Below w.heap.size w wr)
                      case atStart => exact ⟨e1, 0, [], rfl, rfl, rfl, he1, by omega, Lib.hid rfl, Lib.hid rfl, by simpa using hown, hb⟩
                      case round =>
                        clear hown hb
                        obtain ⟨Q, K, L, hg5, rfl, rfl, hQ, hK, HK, HLG, hown, hb⟩ := hrel
                        have HG5 := Lib.hid hg5
                        clear hg5
                        have ht := thr_range K b1
                        have cT := refThr_any K b1 (by omega) (by omega)
                        have hlenG : L.length + (genV Q K b1).length ≤ 12 := by have := HGL.out; rw [← HLG.out, List.length_append] at this; exact this
                        by_cases hqt : Q < thr K b1
                        · have hone := genV_one hqt
                          have hge : decide (((thr K b1 : Nat) : Int) ≤ (Q : Int)) = false := decide_eq_false (by omega)
                          have hgeN : decide (thr K b1 ≤ Q) = false := decide_eq_false (by omega)
                          have cD := refDig_any Q (by omega)
                          have HLE : Hid (L ++ [Q] = genV e1 0 b1) := by show _ = _; rw [← HLG.out, hone]
                          have HXE : Hid (outB P (D ++ [e1]) = (X ++ L.map digB) ++ [digB Q]) := by
                            show _ = _
                            rw [HXN.out, ← HLE.out, List.map_append, List.append_assoc]
                            rfl
                          generalize thr K b1 = t at *
                          clear hone hlenG
                          go_wp2_with (first
                            | (go_at_call 132; refine (cT _).mono ?_; rintro e w' ⟨rfl, rfl⟩)
                            | (go_at_call 133; refine (cD _).mono ?_; rintro e w' ⟨rfl, rfl⟩)
                            | (go_at_call 134; refine (cA _).mono ?_; rintro e w' ⟨rfl, rfl⟩)
                            | (at_builtin; refine wpList_app_one wr rfl _ _ 40 rfl w.heap.size 5 i5 (.int .u8 0) 1 tyBs hi5 hz0 hz1 hz2 rfl _ (by exact rfl) _ _ _ (by exact rfl) hown (by exact rfl) (by unfold maxLen; omega) (by omega) hb (Nat.le_refl _) ?_; intro v' w' hown' hb' _))
                          go_roundg (P.length - (k + 1))
                          case rel =>
                            refine ⟨k + 1, D ++ [e1], d1 + 1, 0, b2, outB P (D ++ [e1]), by omega, rfl, by go_num, by go_num, rfl, rfl, by omega, by omega, hb3, hXl3, HR3, Lib.hid HST.out.symm, HB2, Lib.hid rfl, HC3, ?_, hb'⟩
                            have e3 : (outB P (D ++ [e1])).length = X.length + K + 1 := by rw [HXE.out, HK.out]; simp only [List.length_append, List.length_map, List.length_singleton]
                            rw [e3, HXE.out, List.map_append]
                            exact hown'
                          case measure => rw [HG4.out]; omega
                        · have hmore := genV_more hqt
                          have hge : decide (((thr K b1 : Nat) : Int) ≤ (Q : Int)) = true := decide_eq_true (by omega)
                          have hgeN : decide (thr K b1 ≤ Q) = true := decide_eq_true (by omega)
                          have hless := gen_less Q _ hqt ht.1
                          obtain ⟨t, hte⟩ : ∃ t, t = thr K b1 := ⟨_, rfl⟩
                          rw [← hte] at hmore hge hgeN hless ht hqt cT
                          obtain ⟨rm, hrm⟩ : ∃ rm, rm = (Q - t) % (36 - t) := ⟨_, rfl⟩
                          obtain ⟨Q2, hQ2⟩ : ∃ Q2, Q2 = (Q - t) / (36 - t) := ⟨_, rfl⟩
                          have hrmb : rm < 36 - t := by rw [hrm]; exact Nat.mod_lt _ (by omega)
                          have hmod : Int.tmod ((Q : Int) - (t : Int)) (36 - (t : Int)) = (rm : Int) := by
                            rw [Int.tmod_eq_emod_of_nonneg (by omega), hrm, show ((Q : Int) - (t : Int)) = ((Q - t : Nat) : Int) by omega, show (36 - (t : Int)) = ((36 - t : Nat) : Int) by omega]
                            exact (Int.natCast_emod _ _).symm
                          have hdiv : Int.tdiv ((Q : Int) - (t : Int)) (36 - (t : Int)) = (Q2 : Int) := by
                            rw [Int.tdiv_eq_ediv_of_nonneg (by omega), hQ2, show ((Q : Int) - (t : Int)) = ((Q - t : Nat) : Int) by omega, show (36 - (t : Int)) = ((36 - t : Nat) : Int) by omega]
                            exact (Int.natCast_ediv _ _).symm
                          have hne0 : ¬ (36 - (t : Int) = 0) := by omega
                          rw [← hrm, ← hQ2] at hmore
                          rw [← hQ2] at hless
                          have cD := refDig_any (t + rm) (by omega)
                          rw [show ((t + rm : Nat) : Int) = (t : Int) + (rm : Int) by omega] at cD
                          have HL2 : Hid ((L ++ [t + rm]) ++ genV Q2 (K + 1) b1 = genV e1 0 b1) := by
                            show _ = _
                            rw [← HLG.out, hmore, List.append_assoc]
                            rfl
                          have hK12 : K + 1 ≤ 12 := by
                            rw [hmore, List.length_cons] at hlenG
                            have := HK.out
                            omega
                          clear hmore hrm hQ2 hlenG hte hqt
                          go_wp2_with (first
                            | (go_at_call 132; refine (cT _).mono ?_; rintro e w' ⟨rfl, rfl⟩)
                            | (go_at_call 133; refine (cD _).mono ?_; rintro e w' ⟨rfl, rfl⟩)
                            | (at_builtin; refine wpList_app_one wr rfl _ _ 40 rfl w.heap.size 5 i5 (.int .u8 0) 1 tyBs hi5 hz0 hz1 hz2 rfl _ (by exact rfl) _ _ _ (by exact rfl) hown (by exact rfl) (by unfold maxLen; omega) (by omega) hb (Nat.le_refl _) ?_; intro v' w' hown' hb' _))
                          go_roundg (Q2 + 1)
                          case rel =>
                            refine ⟨Q2, K + 1, L ++ [t + rm], rfl, rfl, by go_num, by omega, hK12, ?_, HL2, ?_, hb'⟩
                            · show _ = _
                              rw [List.length_append, ← HK.out]
                              rfl
                            · rw [show (X ++ (L ++ [t + rm]).map digB).map bv = (X ++ L.map digB).map bv ++ [bv (digB (t + rm))] by simp]
                              exact hown'
                          case measure => rw [HG5.out]; omega
                    · have hpd : decide ((p : Int) < (m : Int)) = false := decide_eq_false (by omega)
                      have hpN : decide (p < m) = false := decide_eq_false hpm
                      have hne : ((p : Int) != (m : Int)) = true := by rw [bne_iff_ne]; omega
                      have hneN : (p != m) = true := by rw [bne_iff_ne]; omega
                      have hR3 := hR2.pass hpm hpe
                      rw [← htk] at hR3
                      have HR3 := Lib.hid hR3
                      have HC3 : Hid (d0 < d1 + ((P.drop (k + 1)).filter (fun x => decide (x = m))).length) := by
                        show _ < _
                        rw [List.filter_cons_of_neg (by simpa using hpe)] at hcnt
                        exact hcnt
                      clear hR2 hR3 hcnt hdr htk
                      go_wp2
                      go_roundg (P.length - (k + 1))
                      case rel => exact ⟨k + 1, D, d1, e1, b1, X, by omega, rfl, by go_num, rfl, rfl, rfl, hd1, he1, hb1, hXl, HR3, HD1, HB1, HX, HC3, hown, hb⟩
                      case measure => rw [HG4.out]; omega
                · obtain rfl : k = P.length := by omega
                  have hkd : decide ((P.length : Int) < (P.length : Int)) = false := by simp
                  have hE2 : EncAt P D (m + 1) (e1 + 1) := by
                    have := HR.out
                    rw [List.drop_length] at this
                    exact this.done
                  have he2 := hE2.small (by omega) hl
                  have HE2 := Lib.hid hE2
                  have hdd : d0 < d1 := by
                    have := HCNT.out
                    rw [List.drop_length] at this
                    exact this
                  clear hE2
                  go_wp2
                  go_roundg (P.length - d1)
                  case rel => exact ⟨D, d1, m + 1, e1 + 1, b1, X, rfl, rfl, by go_num, by go_num, rfl, hd1, by omega, he2, hb1, hXl, HE2, HD1, HB1, HX, hown, hb⟩
                  case measure => rw [HG.out]; omega
        · have hdl : decide ((d0 : Int) < (P.length : Int)) = false := decide_eq_false (by omega)
          have hfin : encDs P = D := HE.out.fin (by rw [← HD.out]; exact hlt0)
          have HX2 : Hid (X = encB P) := by show _ = _; rw [HX.out, encB, hfin]; rfl
          have hconv := str_owned wr _ _ _ _ hown
          rw [HX2.out] at hconv
          clear hfin
          go_wp2
          go_ret2
          exact ⟨rfl, hb⟩
end

section
open Go.RowKit

/-- A number in a cell. -/
abbrev zv (z : Int) : Value := .int .i64 z
theorem iv_zv (P : List Nat) : P.map iv = (P.map (fun n : Nat => (n : Int))).map zv := by rw [List.map_map]; rfl
theorem cell_zv {w wr : World} {B b off len : Nat} {Z : List Int} (h : Has w B (some ⟨b, off, none⟩) len (Z.map zv)) (hb : Below w.heap.size w wr) (hB : B ≤ w.heap.size) (k : Nat) (hk : k < len) (hk2 : k < Z.length) : wr.cell? ⟨b, off + k, none⟩ = some (.int .i64 Z[k]) := by
  obtain ⟨b', off', e, hlt, hc⟩ := h.at_ hk
  injection e with e
  injection e with e1 e2 _
  subst e1 e2
  rw [hb.cell (p := ⟨b, off + k, none⟩) (Nat.lt_of_lt_of_le hlt hB), hc, List.getElem_map]

theorem refEnc_long (A : Option Addr) (len cap : Nat) (w : World) (hl : 256 < len) :
    Calls Tryz.prog 94 #[.slice A len cap] w fun e w' => e = .returned (.tuple #[.string (bs []), .int .i64 3]) ∧ Below w.heap.size w w' := by
  have hd : decide ((256 : Int) < (len : Int)) = true := decide_eq_true (by omega)
  go_enter Tryz.func94, Tryz.ntmps94
  go_wp2
  go_ret2
  exact ⟨rfl, Below.refl _ _⟩

set_option maxRecDepth 20000 in
set_option maxHeartbeats 4000000 in
theorem refEnc_bad (Z : List Int) (hZ : ¬ Z.all ptZ = true) (hl : Z.length ≤ 256) (A : Option Addr) (len cap B : Nat) (w : World) (hA : Has w B A len (Z.map zv)) (hB : B ≤ w.heap.size) :
    Calls Tryz.prog 94 #[.slice A len cap] w fun e w' => e = .returned (.tuple #[.string (bs []), .int .i64 2]) ∧ Below w.heap.size w w' := by
  obtain ⟨i5, hi5, hz0, hz1, hz2⟩ := info_parts infoU8
  have hlen : len = Z.length := by have := hA.1; simpa using this.symm
  subst hlen
  have H := Lib.hid hA
  have HZ := Lib.hid hZ
  clear hA hZ
  have hd256 : decide ((256 : Int) < (Z.length : Int)) = false := decide_eq_false (by omega)
  go_enter Tryz.func94, Tryz.ntmps94
  go_wp2
  go_loopw [4, 5] (fun v i wr => ∃ (k : Nat) (O : List UInt8), k ≤ Z.length ∧ i = .int .i64 k ∧ Hid ((Z.take k).all ptZ = true) ∧ O.length ≤ k ∧ wr.ownsRow w.heap.size 5 1 v O.length (O.map bv) ∧ Below w.heap.size w wr) (fun _ i _ => Z.length - (intOf i).toNat)
  case atStart => exact ⟨0, [], Nat.zero_le _, rfl, Lib.hid rfl, by simp, World.ownsRow_nil _ _ _ _, Below.refl _ _⟩
  case round =>
    obtain ⟨k, O, hk, rfl, HALL, hOl, hown, hb⟩ := hrel
    by_cases hlt : k < Z.length
    · obtain ⟨b1, o1, rfl, l1, d1⟩ := H.out.2 (by omega)
      have g1 := cell_zv H.out hb hB k hlt hlt
      have c1 := refPoint_any Z[k]
      have htk : Z.take (k + 1) = Z.take k ++ [Z[k]] := List.take_succ_eq_append_getElem hlt
      obtain ⟨z, hz⟩ : ∃ z, z = Z[k] := ⟨_, rfl⟩
      rw [← hz] at g1 c1 htk
      clear d1 hz
      by_cases hpt : ptZ z = true
      · have HALL2 : Hid ((Z.take (k + 1)).all ptZ = true) := by
          show _ = _
          rw [htk, List.all_append, HALL.out]
          simpa using hpt
        have hz01 : 0 ≤ z ∧ z ≤ 1114111 := by
          unfold ptZ at hpt
          simp at hpt
          have := ptN_le hpt.2
          omega
        obtain ⟨hz0', hz1'⟩ := hz01
        rw [hpt] at c1
        clear htk hpt
        by_cases h128 : z < 128
        · have hd : decide (z < 128) = true := decide_eq_true h128
          obtain ⟨p, rfl⟩ : ∃ p : Nat, z = (p : Int) := ⟨z.toNat, by omega⟩
          have HBV := Lib.hid (bv_ofNat (p := p) (by omega))
          go_wp2_with (first | (go_at_call 131; refine (c1 _).mono ?_; rintro e w' ⟨rfl, rfl⟩) | (at_builtin; refine wpList_app_one wr rfl _ _ 40 rfl w.heap.size 5 i5 (.int .u8 0) 1 tyBs hi5 hz0 hz1 hz2 rfl _ (by exact rfl) _ _ _ (by exact rfl) hown (by exact rfl) (by unfold maxLen; omega) (by omega) hb (Nat.le_refl _) ?_; intro v' w' hown' hb' _))
          go_roundw
          case rel =>
            refine ⟨k + 1, O ++ [UInt8.ofNat p], by omega, by go_num, HALL2, by simp; omega, ?_, hb'⟩
            rw [List.map_append, List.length_append]
            simp only [List.map_cons, List.map_nil, HBV.out, List.length_singleton]
            exact hown'
          case measure => simp [intOf]; omega
        · have hd : decide (z < 128) = false := decide_eq_false h128
          go_wp2_with (go_at_call 131; refine (c1 _).mono ?_; rintro e w' ⟨rfl, rfl⟩)
          go_roundw
          case rel => exact ⟨k + 1, O, by omega, by go_num, HALL2, by omega, hown, hb⟩
          case measure => simp [intOf]; omega
      · rw [Bool.not_eq_true] at hpt
        rw [hpt] at c1
        clear htk hpt
        go_wp2_with (go_at_call 131; refine (c1 _).mono ?_; rintro e w' ⟨rfl, rfl⟩)
        go_ret2
        exact ⟨rfl, hb⟩
    · exfalso
      have e : k = Z.length := by omega
      have := HALL.out
      rw [e, List.take_length] at this
      exact HZ.out this

/-- The reference's Encode. -/
theorem refEnc_any (Z : List Int) (A : Option Addr) (len cap B : Nat) (w : World) (hA : Has w B A len (Z.map zv)) (hB : B ≤ w.heap.size) :
    Calls Tryz.prog 94 #[.slice A len cap] w fun e w' => e = .returned (.tuple #[.string (bs (encL Z).2), .int .i64 ((encL Z).1 : Nat)]) ∧ Below w.heap.size w w' := by
  have hlen : len = Z.length := by have := hA.1; simpa using this.symm
  by_cases h1 : 256 < Z.length
  · have e : encL Z = (3, []) := by unfold encL; rw [if_pos h1]
    rw [e]
    exact refEnc_long A len cap w (by omega)
  · by_cases h2 : Z.all ptZ = true
    · have e : encL Z = (0, encB (Z.map Int.toNat)) := by unfold encL; rw [if_neg h1, if_pos h2]
      obtain ⟨hP, hZ⟩ := all_pt h2
      rw [e]
      refine refEnc_ok _ hP (by rw [List.length_map]; omega) A len cap B w ?_ hB
      rw [iv_zv, hZ]
      exact hA
    · have e : encL Z = (2, []) := by unfold encL; rw [if_neg h1, if_neg h2]
      rw [e]
      exact refEnc_bad Z h2 (by omega) A len cap B w hA hB
end

end Go.Proofs.YtpccpgihldpiiaaGreatDoor
