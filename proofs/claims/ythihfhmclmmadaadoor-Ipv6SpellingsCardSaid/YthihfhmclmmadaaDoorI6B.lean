/-
  The walks of Ipv6MatchesSpec and Ipv6RoundTrip: they return true.
-/
import Derived.Test.YthihfhmclmmadaaDoorI6A
import Derived.Deep.RegionHeld3
namespace Go.Proofs.YthihfhmclmmadaaDoor
open Go.RowKit

theorem load_av {w : World} {b : Nat} {C : List Nat} (hC : C.length = 8) (h : RowA w b C) : (loadVar 23 ⟨b, 0, none⟩).run Tryd.prog w = .ok (.agg (av C)) w :=
  run_loadVar_row (P := Tryd.prog) w b _ _ (av C) (0, 0) _ h tyA8 rfl (sizeA C hC)
theorem RowA.below {w w' : World} {b B : Nat} {C : List Nat} (h : RowA w b C) (hb : Below B w w') (hB : b < B) : RowA w' b C := Row.below h hb hB
theorem rowA_of {w : World} {b : Nat} {C : List Nat} (h : Row w b 23 (av C)) : RowA w b C := h
theorem RowA.grown {w w' : World} {b g' : Nat} {C : List Nat} (h : RowA w b C) (hg : w.grownBy w' (some g')) (hne : b ≠ g') : RowA w' b C := Row.grown h hg hne
theorem RowA.grown0 {w w' : World} {b : Nat} {C : List Nat} (h : RowA w b C) (hg : w.grownBy w' none) : RowA w' b C := Row.grown0 h hg
theorem RowA.lt {w : World} {b : Nat} {C : List Nat} (h : RowA w b C) : b < w.heap.size := Row.lt h
theorem RowA.drew {w : World} {b : Nat} {C : List Nat} (h : RowA w b C) : RowA w.drew b C := h
theorem rowA_get {w : World} {b : Nat} {C : List Nat} (h : RowA w b C) : Row w b 23 (av C) := h
theorem arr6_len {o : Option (List Nat)} (h : ∀ g, o = some g → g.length = 8) : (arr6 o).length = 8 := by
  unfold arr6
  cases o with
  | none => rfl
  | some g => exact h g rfl
theorem parse6_len {l g : List Nat} {s : List UInt8} (h : parse6 s = some g) : g.length = 8 := by
  unfold parse6 at h
  split at h
  · split at h
    · split at h
      · simp only [Option.some.injEq] at h; subst h; assumption
      · cases h
    · cases h
  · split at h
    · cases h
    · split at h
      · cases h
      · split at h
        · simp only [Option.some.injEq] at h; subst h; simp [zerosN]; omega
        · cases h
/-- The cells of an array of eight groups. -/
def At8 (w : World) (b : Nat) (x0 x1 x2 x3 x4 x5 x6 x7 : Int) : Prop := w.cell? ⟨b, 0, none⟩ = some (.int .u16 x0) ∧ w.cell? ⟨b, 1, none⟩ = some (.int .u16 x1) ∧ w.cell? ⟨b, 2, none⟩ = some (.int .u16 x2) ∧ w.cell? ⟨b, 3, none⟩ = some (.int .u16 x3) ∧ w.cell? ⟨b, 4, none⟩ = some (.int .u16 x4) ∧ w.cell? ⟨b, 5, none⟩ = some (.int .u16 x5) ∧ w.cell? ⟨b, 6, none⟩ = some (.int .u16 x6) ∧ w.cell? ⟨b, 7, none⟩ = some (.int .u16 x7)
theorem At8.below {w w' : World} {b B : Nat} {x0 x1 x2 x3 x4 x5 x6 x7 : Int} (h : At8 w b x0 x1 x2 x3 x4 x5 x6 x7) (hb : Below B w w') (hB : b < B) : At8 w' b x0 x1 x2 x3 x4 x5 x6 x7 :=
  ⟨(hb.cell (p := ⟨b, 0, none⟩) hB).trans h.1, (hb.cell (p := ⟨b, 1, none⟩) hB).trans h.2.1, (hb.cell (p := ⟨b, 2, none⟩) hB).trans h.2.2.1, (hb.cell (p := ⟨b, 3, none⟩) hB).trans h.2.2.2.1, (hb.cell (p := ⟨b, 4, none⟩) hB).trans h.2.2.2.2.1, (hb.cell (p := ⟨b, 5, none⟩) hB).trans h.2.2.2.2.2.1, (hb.cell (p := ⟨b, 6, none⟩) hB).trans h.2.2.2.2.2.2.1, (hb.cell (p := ⟨b, 7, none⟩) hB).trans h.2.2.2.2.2.2.2⟩
theorem av_cells (C : List Nat) (h : C.length = 8) : ∃ x0 x1 x2 x3 x4 x5 x6 x7 : Int, av C = #[.int .u16 x0, .int .u16 x1, .int .u16 x2, .int .u16 x3, .int .u16 x4, .int .u16 x5, .int .u16 x6, .int .u16 x7] := by
  match C, h with
  | [a, b, c, d, e, f, g, i], _ => exact ⟨a, b, c, d, e, f, g, i, rfl⟩
theorem At8.of {w : World} {b : Nat} {C : List Nat} {x0 x1 x2 x3 x4 x5 x6 x7 : Int} (h : RowA w b C) (e : av C = #[.int .u16 x0, .int .u16 x1, .int .u16 x2, .int .u16 x3, .int .u16 x4, .int .u16 x5, .int .u16 x6, .int .u16 x7]) : At8 w b x0 x1 x2 x3 x4 x5 x6 x7 := by
  have h' : Row w b 23 #[.int .u16 x0, .int .u16 x1, .int .u16 x2, .int .u16 x3, .int .u16 x4, .int .u16 x5, .int .u16 x6, .int .u16 x7] := by rw [← e]; exact h
  exact ⟨h'.cell (k := 0) (by simp), h'.cell (k := 1) (by simp), h'.cell (k := 2) (by simp), h'.cell (k := 3) (by simp), h'.cell (k := 4) (by simp), h'.cell (k := 5) (by simp), h'.cell (k := 6) (by simp), h'.cell (k := 7) (by simp)⟩

attribute [local irreducible] av RowA in
set_option maxRecDepth 20000 in
set_option maxHeartbeats 16000000 in
theorem walk6Mat (hP : P6Par 8) (hF : P6Fmt 10) (s : ByteArray) (a : List Nat) (w : World) (hs : s.size ≤ maxLen) (ha : a.length = 8 ∧ G16 a) (hpw : Pow6 w) :
    Calls Tryd.prog 3 #[.string s, .agg (av a)] w (Yes w) := by
  obtain ⟨ha8, hag⟩ := ha
  by_cases hlen : (300 : Int) < (s.size : Int)
  · have hd : decide ((300 : Int) < (s.size : Int)) = true := decide_eq_true hlen
    go_enter Tryd.func3, Tryd.ntmps3
    go_wp2_with (first | (refine wpList_box_arr _ rfl 3 rfl _ _ rfl _ (av a) (by exact rfl) (by exact rfl) ?_; intro W1 g1 hg1 hl1 hR1 hG1; have hb1 := below_row0 (Below.refl w.heap.size w) hG1 (Nat.le_refl _)) | (go_at_call 7; refine (awake11_any hP hF _ (pow6_below hpw hb1)).mono ?_; rintro r w2 ⟨rfl, hb2⟩))
    go_ret
    exact ⟨rfl, hb1.trans (hb2.mono hb1.size)⟩
  · have hd : decide ((300 : Int) < (s.size : Int)) = false := decide_eq_false hlen
    have c1 := fun W hh => hP s W (by omega) hh
    have c2 := fun W => refParse6_any s W (by omega)
    have c3 := fun W hh => hF a ha8 hag W hh
    have c4 := fun W => refFormat6_any a ha8 hag W
    have c9 := awake11_any hP hF
    have hB8 : (arr6 (parse6 (ls s))).length = 8 := by
      unfold arr6
      cases hp : parse6 (ls s) with
      | none => rfl
      | some g => exact parse6_len (l := []) hp
    generalize arr6 (parse6 (ls s)) = B at *
    generalize (parse6 (ls s)).isSome = ok at *
    generalize bs (fmt6 a) = X at *
    have hEq := fun W => eq_av B B hB8 hB8 W
    rw [show decide (B = B) = true by simp] at hEq
    have e2 : (ok == ok) = true := by simp
    have e6 : (X.toList == X.toList) = true := by simp
    clear hlen hP hF
    go_enter Tryd.func3, Tryd.ntmps3
    go_wp2_with (refine wpList_box_arr _ rfl 3 rfl _ _ rfl _ (av a) (by exact rfl) (by exact rfl) ?_; intro W1 b3 hg1 hl1 hR1 hG1)
    have hb1 := below_row0 (Below.refl w.heap.size w) hG1 (Nat.le_refl _)
    refine (c1 _ (pow6_below hpw hb1)).mono ?_
    rintro r w2 ⟨rfl, hb2⟩
    have hR2 := (rowA_of hR1).below hb2 hl1
    replace hb2 := hb1.trans (hb2.mono hb1.size)
    clear hG1 hR1 hb1
    go_wp2_with (first
      | (refine wpList_alloc_arr _ rfl 5 rfl _ rfl _ zeroA8 ?_
         intro W3 b5 hg5 hl5 hR5 hG5
         have hb3 := below_row0 hb2 hG5 (Nat.le_refl _)
         have hR3 := hR2.grown0 hG5
         have hlt3 := hR2.lt
         clear hR2 hb2 hG5)
      | (refine wpList_store_arr _ rfl rfl _ _ _ rfl b5 (by exact rfl) (av B) (by exact rfl) _ _ hR5 (sizeA B hB8) (by rw [av_size, av_size, hB8]; rfl) (av_one B) ?_
         intro W4 hR6 hG6
         have hb4 := below_row hb3 hG6 (Nat.le_refl _) (by have := hb3.size; omega)
         have hR4 := hR3.grown hG6 (by omega)
         have hT4 := rowA_of hR6
         clear hR5 hG6 hb3 hR3 hR6))
    refine (c2 _).mono ?_
    rintro r w5 ⟨rfl, hb5⟩
    have hR5 := hR4.below hb5 hR4.lt
    have hT5 := hT4.below hb5 hT4.lt
    have hl4 := hT4.lt
    have hl3 := hR4.lt
    have hs45 := hb5.size
    have hne35 : b3 ≠ b5 := by omega
    replace hb5 := hb4.trans (hb5.mono hb4.size)
    clear hb4 hR4 hT4
    go_wp2_with (first
      | (refine wpList_alloc_arr _ rfl 7 rfl _ rfl _ zeroA8 ?_
         intro W6 b7 hg7 hl7 hR7 hG7
         have hb6 := below_row0 hb5 hG7 (Nat.le_refl _)
         have hR6 := hR5.grown0 hG7
         have hT6 := hT5.grown0 hG7
         clear hR5 hT5 hb5 hG7)
      | (refine wpList_store_arr _ rfl rfl _ _ _ rfl b7 (by exact rfl) (av B) (by exact rfl) _ _ hR7 (sizeA B hB8) (by rw [av_size, av_size, hB8]; rfl) (av_one B) ?_
         intro W7 hR8 hG8
         have hb7 := below_row hb6 hG8 (Nat.le_refl _) (by have := hb6.size; omega)
         have R3 := hR6.grown hG8 (by omega)
         have R5 := hT6.grown hG8 (by omega)
         have R7 := rowA_of hR8
         clear hR7 hG8 hb6 hR6 hT6 hR8))
    have HB7 := Lib.hid hb7
    have hpw7 := pow6_drew (pow6_below hpw hb7)
    obtain ⟨x0, x1, x2, x3, x4, x5, x6, x7, hxe⟩ := av_cells a ha8
    obtain ⟨y0, y1, y2, y3, y4, y5, y6, y7, hye⟩ := av_cells B hB8
    rw [hxe] at c3 c4
    rw [hye] at hEq
    have S_b3 := At8.of R3 hxe
    have l_b3 := R3.lt
    obtain ⟨p0, p1, p2, p3, p4, p5, p6, p7⟩ := (And.intro S_b3.1 S_b3.2)
    have S_b5 := At8.of R5 hye
    have l_b5 := R5.lt
    obtain ⟨q0, q1, q2, q3, q4, q5, q6, q7⟩ := (And.intro S_b5.1 S_b5.2)
    have S_b7 := At8.of R7 hye
    have l_b7 := R7.lt
    obtain ⟨r0, r1, r2, r3, r4, r5, r6, r7⟩ := (And.intro S_b7.1 S_b7.2)
    rw [hxe, hye]
    clear hb7 c1 c2 hxe hye R3 R5 R7 hl3 hl4 hs45 hne35 hg1 hl1 hg5 hl5 hlt3 hg7 hl7
    go_region_held3 (fun W => (W.cell? ⟨b3, 0, none⟩ = some (.int .u16 x0) ∧ W.cell? ⟨b3, 1, none⟩ = some (.int .u16 x1) ∧ W.cell? ⟨b3, 2, none⟩ = some (.int .u16 x2) ∧ W.cell? ⟨b3, 3, none⟩ = some (.int .u16 x3) ∧ W.cell? ⟨b3, 4, none⟩ = some (.int .u16 x4) ∧ W.cell? ⟨b3, 5, none⟩ = some (.int .u16 x5) ∧ W.cell? ⟨b3, 6, none⟩ = some (.int .u16 x6) ∧ W.cell? ⟨b3, 7, none⟩ = some (.int .u16 x7)) ∧ (W.cell? ⟨b5, 0, none⟩ = some (.int .u16 y0) ∧ W.cell? ⟨b5, 1, none⟩ = some (.int .u16 y1) ∧ W.cell? ⟨b5, 2, none⟩ = some (.int .u16 y2) ∧ W.cell? ⟨b5, 3, none⟩ = some (.int .u16 y3) ∧ W.cell? ⟨b5, 4, none⟩ = some (.int .u16 y4) ∧ W.cell? ⟨b5, 5, none⟩ = some (.int .u16 y5) ∧ W.cell? ⟨b5, 6, none⟩ = some (.int .u16 y6) ∧ W.cell? ⟨b5, 7, none⟩ = some (.int .u16 y7)) ∧ (W.cell? ⟨b7, 0, none⟩ = some (.int .u16 y0) ∧ W.cell? ⟨b7, 1, none⟩ = some (.int .u16 y1) ∧ W.cell? ⟨b7, 2, none⟩ = some (.int .u16 y2) ∧ W.cell? ⟨b7, 3, none⟩ = some (.int .u16 y3) ∧ W.cell? ⟨b7, 4, none⟩ = some (.int .u16 y4) ∧ W.cell? ⟨b7, 5, none⟩ = some (.int .u16 y5) ∧ W.cell? ⟨b7, 6, none⟩ = some (.int .u16 y6) ∧ W.cell? ⟨b7, 7, none⟩ = some (.int .u16 y7))) (first | exact ⟨⟨p0, p1, p2, p3, p4, p5, p6, p7⟩, ⟨q0, q1, q2, q3, q4, q5, q6, q7⟩, ⟨r0, r1, r2, r3, r4, r5, r6, r7⟩⟩ | go_keep)
      (first
        | (go_at_call 10
           refine (c3 _ hpw7).mono ?_
           rintro r wA ⟨rfl, hbA'⟩
           have hbA : Below W7.heap.size W7.drew wA := hbA'
           clear p0 p1 p2 p3 p4 p5 p6 p7 q0 q1 q2 q3 q4 q5 q6 q7 r0 r1 r2 r3 r4 r5 r6 r7
           obtain ⟨p0, p1, p2, p3, p4, p5, p6, p7⟩ := (show At8 W7.drew b3 x0 x1 x2 x3 x4 x5 x6 x7 from S_b3).below hbA l_b3
           obtain ⟨q0, q1, q2, q3, q4, q5, q6, q7⟩ := (show At8 W7.drew b5 y0 y1 y2 y3 y4 y5 y6 y7 from S_b5).below hbA l_b5
           obtain ⟨r0, r1, r2, r3, r4, r5, r6, r7⟩ := (show At8 W7.drew b7 y0 y1 y2 y3 y4 y5 y6 y7 from S_b7).below hbA l_b7
           clear c3 hbA')
        | (go_at_call 11
           refine (c4 _).mono ?_
           rintro r wB ⟨rfl, hbB'⟩
           have hbB : Below W7.heap.size W7.drew wB := hbA.trans (hbB'.mono hbA.size)
           clear p0 p1 p2 p3 p4 p5 p6 p7 q0 q1 q2 q3 q4 q5 q6 q7 r0 r1 r2 r3 r4 r5 r6 r7
           obtain ⟨p0, p1, p2, p3, p4, p5, p6, p7⟩ := (show At8 W7.drew b3 x0 x1 x2 x3 x4 x5 x6 x7 from S_b3).below hbB l_b3
           obtain ⟨q0, q1, q2, q3, q4, q5, q6, q7⟩ := (show At8 W7.drew b5 y0 y1 y2 y3 y4 y5 y6 y7 from S_b5).below hbB l_b5
           obtain ⟨r0, r1, r2, r3, r4, r5, r6, r7⟩ := (show At8 W7.drew b7 y0 y1 y2 y3 y4 y5 y6 y7 from S_b7).below hbB l_b7
           clear c4 hbB')
        | (go_at_call 7
           refine (c9 _ (pow6_below hpw7 hbB)).mono ?_
           rintro r wC ⟨rfl, hbC'⟩
           have hbC : Below W7.heap.size W7.drew wC := hbB.trans (hbC'.mono hbB.size)
           clear p0 p1 p2 p3 p4 p5 p6 p7 q0 q1 q2 q3 q4 q5 q6 q7 r0 r1 r2 r3 r4 r5 r6 r7
           obtain ⟨p0, p1, p2, p3, p4, p5, p6, p7⟩ := (show At8 W7.drew b3 x0 x1 x2 x3 x4 x5 x6 x7 from S_b3).below hbC l_b3
           obtain ⟨q0, q1, q2, q3, q4, q5, q6, q7⟩ := (show At8 W7.drew b5 y0 y1 y2 y3 y4 y5 y6 y7 from S_b5).below hbC l_b5
           obtain ⟨r0, r1, r2, r3, r4, r5, r6, r7⟩ := (show At8 W7.drew b7 y0 y1 y2 y3 y4 y5 y6 y7 from S_b7).below hbC l_b7
           clear c9 hbC'))
    all_goals (go_wp2_with fail)
    all_goals go_ret
    all_goals exact ⟨rfl, HB7.out.trans (((Below.refl _ _).drew.trans hbC).mono HB7.out.size)⟩

attribute [local irreducible] av RowA in
set_option maxRecDepth 20000 in
set_option maxHeartbeats 16000000 in
theorem walk6RT (hP : P6Par 8) (hF : P6Fmt 10) (a b : List Nat) (w : World) (ha : a.length = 8 ∧ G16 a) (hb : b.length = 8 ∧ G16 b) (hpw : Pow6 w) :
    Calls Tryd.prog 4 #[.agg (av a), .agg (av b)] w (Yes w) := by
    obtain ⟨ha8, hag⟩ := ha
    obtain ⟨hb8, hbg⟩ := hb
    have hfl : (bs (fmt6 a)).size ≤ 1000000000 := by
      rw [bs_size]
      have : (fmt6 a).length ≤ 82 := txt6_len a hag _ _ 8 (Nat.le_refl _)
      omega
    have c1 := fun W hh => hF a ha8 hag W hh
    have c2 := fun W hh => hP (bs (fmt6 a)) W hfl hh
    have c3 := fun W hh => hF b hb8 hbg W hh
    have c9 := awake11_any hP hF
    rw [ls_bs, parse_fmt6 a hag ha8, show arr6 (some a) = a from rfl, show (some a).isSome = true from rfl] at c2
    have hEq := fun W => eq_av a a ha8 ha8 W
    rw [show decide (a = a) = true by simp] at hEq
    have hE2 := fun W => eq_av a b ha8 hb8 W
    have hcmp : ((bs (fmt6 a)).toList == (bs (fmt6 b)).toList) = decide (a = b) := by
      by_cases h : a = b
      · subst h; simp
      · rw [decide_eq_false h, beq_eq_false_iff_ne, toList_ls, toList_ls, ls_bs, ls_bs]
        exact fun e => h (fmt6_inj hag hbg ha8 hb8 e)
    generalize decide (a = b) = dd at *
    have edd : (dd == dd) = true := by simp
    generalize bs (fmt6 a) = X at *
    generalize bs (fmt6 b) = Y at *
    clear hP hF hfl
    go_enter Tryd.func4, Tryd.ntmps4
    go_wp2_with (first
      | (refine wpList_box_arr _ rfl 2 rfl _ _ rfl _ (av a) (by exact rfl) (by exact rfl) ?_
         intro W1 b2 hg1 hl1 hR1 hG1
         have hb1 := below_row0 (Below.refl w.heap.size w) hG1 (Nat.le_refl _)
         clear hG1)
      | (refine wpList_box_arr _ rfl 3 rfl _ _ rfl _ (av b) (by exact rfl) (by exact rfl) ?_
         intro W2 b3 hg2 hl2 hR2 hG2
         have hb2 := below_row0 hb1 hG2 (Nat.le_refl _)
         have hA2 := (rowA_of hR1).grown0 hG2
         have hT2 := rowA_of hR2
         clear hG2 hR1 hR2 hb1)
      | (refine wpList_load_arr _ rfl _ _ rfl b2 (by exact rfl) _ (av a) (rowA_get hA2) 8 _ tyA8 (sizeA a ha8) ?_))
    refine (c1 _ (pow6_below hpw hb2)).mono ?_
    rintro r w3 ⟨rfl, hb3⟩
    have hA3 := hA2.below hb3 hA2.lt
    have hT3 := hT2.below hb3 hT2.lt
    replace hb3 := hb2.trans (hb3.mono hb2.size)
    clear hA2 hT2 hb2 c1
    go_wp2_with fail
    refine (c2 _ (pow6_below hpw hb3)).mono ?_
    rintro r w4 ⟨rfl, hb4⟩
    have hA4 := hA3.below hb4 hA3.lt
    have hT4 := hT3.below hb4 hT3.lt
    have hlA := hA4.lt
    have hlT := hT4.lt
    replace hb4 := hb3.trans (hb4.mono hb3.size)
    clear hA3 hT3 hb3 c2
    go_wp2_with (first
      | (refine wpList_alloc_arr _ rfl 6 rfl _ rfl _ zeroA8 ?_
         intro W6 b6 hg6 hl6 hR6 hG6
         have hb6 := below_row0 hb4 hG6 (Nat.le_refl _)
         have hA6 := hA4.grown0 hG6
         have hT6 := hT4.grown0 hG6
         clear hA4 hT4 hb4 hG6)
      | (refine wpList_store_arr _ rfl rfl _ _ _ rfl b6 (by exact rfl) (av a) (by exact rfl) _ _ hR6 (sizeA a ha8) (by rw [av_size, av_size, ha8]; rfl) (av_one a) ?_
         intro W7 hR8 hG8
         have hb7 := below_row hb6 hG8 (Nat.le_refl _) (by have := hb6.size; omega)
         have R2 := hA6.grown hG8 (by omega)
         have R3 := hT6.grown hG8 (by omega)
         have R6 := rowA_of hR8
         clear hR6 hG8 hb6 hA6 hT6 hR8))
    have HB7 := Lib.hid hb7
    have hpw7 := pow6_drew (pow6_below hpw hb7)
    obtain ⟨x0, x1, x2, x3, x4, x5, x6, x7, hxe⟩ := av_cells a ha8
    obtain ⟨y0, y1, y2, y3, y4, y5, y6, y7, hye⟩ := av_cells b hb8
    rw [hye] at c3 hE2
    rw [hxe] at hEq hE2
    have S_b2 := At8.of R2 hxe
    have l_b2 := R2.lt
    obtain ⟨p0, p1, p2, p3, p4, p5, p6, p7⟩ := (And.intro S_b2.1 S_b2.2)
    have S_b3 := At8.of R3 hye
    have l_b3 := R3.lt
    obtain ⟨q0, q1, q2, q3, q4, q5, q6, q7⟩ := (And.intro S_b3.1 S_b3.2)
    have S_b6 := At8.of R6 hxe
    have l_b6 := R6.lt
    obtain ⟨r0, r1, r2, r3, r4, r5, r6, r7⟩ := (And.intro S_b6.1 S_b6.2)
    rw [hxe, hye]
    clear hb7 hxe hye R2 R3 R6 hlA hlT hg1 hl1 hg2 hl2 hg6 hl6
    go_region_held3 (fun W => (W.cell? ⟨b2, 0, none⟩ = some (.int .u16 x0) ∧ W.cell? ⟨b2, 1, none⟩ = some (.int .u16 x1) ∧ W.cell? ⟨b2, 2, none⟩ = some (.int .u16 x2) ∧ W.cell? ⟨b2, 3, none⟩ = some (.int .u16 x3) ∧ W.cell? ⟨b2, 4, none⟩ = some (.int .u16 x4) ∧ W.cell? ⟨b2, 5, none⟩ = some (.int .u16 x5) ∧ W.cell? ⟨b2, 6, none⟩ = some (.int .u16 x6) ∧ W.cell? ⟨b2, 7, none⟩ = some (.int .u16 x7)) ∧ (W.cell? ⟨b3, 0, none⟩ = some (.int .u16 y0) ∧ W.cell? ⟨b3, 1, none⟩ = some (.int .u16 y1) ∧ W.cell? ⟨b3, 2, none⟩ = some (.int .u16 y2) ∧ W.cell? ⟨b3, 3, none⟩ = some (.int .u16 y3) ∧ W.cell? ⟨b3, 4, none⟩ = some (.int .u16 y4) ∧ W.cell? ⟨b3, 5, none⟩ = some (.int .u16 y5) ∧ W.cell? ⟨b3, 6, none⟩ = some (.int .u16 y6) ∧ W.cell? ⟨b3, 7, none⟩ = some (.int .u16 y7)) ∧ (W.cell? ⟨b6, 0, none⟩ = some (.int .u16 x0) ∧ W.cell? ⟨b6, 1, none⟩ = some (.int .u16 x1) ∧ W.cell? ⟨b6, 2, none⟩ = some (.int .u16 x2) ∧ W.cell? ⟨b6, 3, none⟩ = some (.int .u16 x3) ∧ W.cell? ⟨b6, 4, none⟩ = some (.int .u16 x4) ∧ W.cell? ⟨b6, 5, none⟩ = some (.int .u16 x5) ∧ W.cell? ⟨b6, 6, none⟩ = some (.int .u16 x6) ∧ W.cell? ⟨b6, 7, none⟩ = some (.int .u16 x7))) (first | exact ⟨⟨p0, p1, p2, p3, p4, p5, p6, p7⟩, ⟨q0, q1, q2, q3, q4, q5, q6, q7⟩, ⟨r0, r1, r2, r3, r4, r5, r6, r7⟩⟩ | go_keep)
      (first
        | (go_at_call 10
           refine (c3 _ hpw7).mono ?_
           rintro r wA ⟨rfl, hbA'⟩
           have hbA : Below W7.heap.size W7.drew wA := hbA'
           clear p0 p1 p2 p3 p4 p5 p6 p7 q0 q1 q2 q3 q4 q5 q6 q7 r0 r1 r2 r3 r4 r5 r6 r7
           obtain ⟨p0, p1, p2, p3, p4, p5, p6, p7⟩ := (show At8 W7.drew b2 x0 x1 x2 x3 x4 x5 x6 x7 from S_b2).below hbA l_b2
           obtain ⟨q0, q1, q2, q3, q4, q5, q6, q7⟩ := (show At8 W7.drew b3 y0 y1 y2 y3 y4 y5 y6 y7 from S_b3).below hbA l_b3
           obtain ⟨r0, r1, r2, r3, r4, r5, r6, r7⟩ := (show At8 W7.drew b6 x0 x1 x2 x3 x4 x5 x6 x7 from S_b6).below hbA l_b6
           clear c3 hbA')
        | (go_at_call 7
           refine (c9 _ (pow6_below hpw7 hbA)).mono ?_
           rintro r wB ⟨rfl, hbB'⟩
           have hbB : Below W7.heap.size W7.drew wB := hbA.trans (hbB'.mono hbA.size)
           clear p0 p1 p2 p3 p4 p5 p6 p7 q0 q1 q2 q3 q4 q5 q6 q7 r0 r1 r2 r3 r4 r5 r6 r7
           obtain ⟨p0, p1, p2, p3, p4, p5, p6, p7⟩ := (show At8 W7.drew b2 x0 x1 x2 x3 x4 x5 x6 x7 from S_b2).below hbB l_b2
           obtain ⟨q0, q1, q2, q3, q4, q5, q6, q7⟩ := (show At8 W7.drew b3 y0 y1 y2 y3 y4 y5 y6 y7 from S_b3).below hbB l_b3
           obtain ⟨r0, r1, r2, r3, r4, r5, r6, r7⟩ := (show At8 W7.drew b6 x0 x1 x2 x3 x4 x5 x6 x7 from S_b6).below hbB l_b6
           clear c9 hbB'))
    all_goals (go_wp2_with fail)
    all_goals go_ret
    all_goals exact ⟨rfl, HB7.out.trans (((Below.refl _ _).drew.trans hbB).mono HB7.out.size)⟩

end Go.Proofs.YthihfhmclmmadaaDoor
