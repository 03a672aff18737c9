/-
The program's parseDomain of package host.
The program's Parse of package host.
-/
import Derived.Test.YtdfacgncphmcoaaGreatDoorC14
import Derived.Test.YtdfacgncphmcoaaGreatDoorC20
import Derived.Test.YtdfacgncphmcoaaGreatDoorC12
import Derived.Test.YtdfacgncphmcoaaGreatDoorC17
namespace Go.Proofs.YtdfacgncphmcoaaGreatDoor
section
open Go.RowKit Go.Shelf
attribute [local go_sem] Oper.semAt_some
/-- What parsing a text of labels answers. -/
def pD (l : List UInt8) : Nat × Hv := if (namesGo (splitL 46 l)).1 = 0 then jN (namesGo (splitL 46 l)).2 else ((namesGo (splitL 46 l)).1, hv0)
def nmA (pre : List St9) : List (List UInt8) := pre.map (fun x => (toA (ls x.1)).2)
theorem nmA_length (pre : List St9) : (nmA pre).length = pre.length := List.length_map _
theorem names_all : ∀ (pre : List St9), (∀ x ∈ pre, (toA (ls x.1)).1 = 0) → namesGo (pre.map (fun x => ls x.1)) = (0, nmA pre)
  | [], _ => rfl
  | x :: r, h => by
    have ih := names_all r (fun y hy => h y (by simp [hy]))
    rw [List.map_cons, namesGo, if_pos (h x (by simp)), ih]
    rfl
theorem names_stop : ∀ (pre : List St9) (x : St9) (t : List (List UInt8)), (∀ y ∈ pre, (toA (ls y.1)).1 = 0) → (toA (ls x.1)).1 ≠ 0 → namesGo (pre.map (fun x => ls x.1) ++ ls x.1 :: t) = ((toA (ls x.1)).1, [])
  | [], x, t, _, hx => by rw [List.map_nil, List.nil_append, namesGo, if_neg hx]
  | y :: r, x, t, h, hx => by
    have ih := names_stop r x t (fun z hz => h z (by simp [hz])) hx
    rw [List.map_cons, List.cons_append, namesGo, if_pos (h y (by simp)), ih, if_neg hx]
theorem joinL_le : ∀ (q : List (List UInt8)), (∀ x ∈ q, x.length ≤ 63) → (joinL 46 q).length ≤ 64 * q.length
  | [], _ => by simp [joinL]
  | [a], h => by
    have := h a (by simp)
    simp only [joinL, List.length_cons, List.length_nil]
    omega
  | a :: b :: r, h => by
    have h1 := h a (by simp)
    have ih := joinL_le (b :: r) (fun x hx => h x (by simp [hx]))
    rw [joinL, List.length_append, List.length_cons, List.length_cons (a := a)]
    omega
theorem nmA_le {pre : List St9} (h : ∀ x ∈ pre, (toA (ls x.1)).1 = 0) : ∀ y ∈ nmA pre, y.length ≤ 63 := by
  intro y hy
  obtain ⟨x, hx, rfl⟩ := List.mem_map.1 hy
  rcases toA_cases (ls x.1) with ⟨_, h2⟩ | ⟨h2, _⟩
  · exact (lab_all h2).2.2
  · exact absurd (h x hx) h2
theorem pD_stop {l : List UInt8} {pre : List St9} {x : St9} (h1 : (pre ++ [x]).map (fun x => ls x.1) <+: splitL 46 l) (h2 : ∀ y ∈ pre, (toA (ls y.1)).1 = 0) (h3 : (toA (ls x.1)).1 ≠ 0) : pD l = ((toA (ls x.1)).1, hv0) := by
  obtain ⟨t, ht⟩ := h1
  have e : splitL 46 l = pre.map (fun x => ls x.1) ++ ls x.1 :: t := by rw [← ht, List.map_append, List.append_assoc]; rfl
  unfold pD
  rw [e, names_stop pre x t h2 h3, if_neg h3]
theorem pD_all {l : List UInt8} {pre : List St9} (h1 : pre.map (fun x => ls x.1) = splitL 46 l) (h2 : ∀ y ∈ pre, (toA (ls y.1)).1 = 0) : pD l = jN (nmA pre) := by
  unfold pD
  rw [← h1, names_all pre h2, if_pos rfl]
theorem results_two {fn : Func} {w : World} {tmps : Array Value} (p u : Tmp) (hres : fn.results = #[.cell p 27, .cell u 30]) (b d : Nat) (hp : tmps.getD p undef = .pointer (some ⟨b, 0, none⟩)) (hu : tmps.getD u undef = .pointer (some ⟨d, 0, none⟩))
    (c : Array Value) (hrow : RowH w b c) (hc : c.size = 11) (v : Value) (hv : w.cell? ⟨d, 0, none⟩ = some v) (_hv1 : v.oneCell' = true) : (results fn tmps).run Tryz.prog w = .ok (.tuple #[.agg c, v]) w := by
  have hp' : tmps[p]?.getD undef = .pointer (some ⟨b, 0, none⟩) := by simpa using hp
  have hu' : tmps[u]?.getD undef = .pointer (some ⟨d, 0, none⟩) := by simpa using hu
  have hv2 : (loadVar 30 ⟨d, 0, none⟩).run Tryz.prog w = .ok v w := by simp [go_sem, hv]
  simp [results, hres, hp', hu', asAddr, Result.andThen, load_host hrow hc, hv2]
def errOf (pre : List St9) : Nat := match pre.getLast? with
  | some x => (toA (ls x.1)).1
  | none => 0
theorem errOf_snoc (p : List St9) (x : St9) : errOf (p ++ [x]) = (toA (ls x.1)).1 := by unfold errOf; rw [List.getLast?_append]; rfl
set_option maxRecDepth 100000 in
set_option maxHeartbeats 4000000 in
theorem parseDomain_any (hN : HoNum 111) (hA : LbTA 149) (s : ByteArray) (w : World) (hs : s.size ≤ 1000000) (hU : U8 w) : Calls Tryz.prog 113 #[.string s] w (HostPost w (pD (ls s))) := by
  have hs9 : s.size ≤ 1000000000 := by omega
  have HU := Lib.hid hU
  obtain ⟨i0, hi, hz0, hz1, hz2⟩ := info_parts infoStr
  clear hU
  refine (callsIn_wide (n := 3)).1 ?_
  refine callsIn_of_wp_marks Tryz.func113 rfl trivial ?_ rfl
  simp only [Tryz.ntmps113, List.size_toArray, List.length_cons, List.length_nil, Nat.reduceAdd, Nat.reduceSub, Array.replicate_succ, Array.replicate_zero, List.push_toArray, List.append_toArray, List.nil_append, List.cons_append]
  gi_wp2_with fail
  refine ⟨trivial, ?_⟩
  refine (callsIn_wide.2 (seq_any s _)).mono ?_
  rintro e w2 ⟨rfl, rfl⟩
  gi_wp2_with fail
  obtain ⟨B0, hB0⟩ : ∃ b, b = w.heap.size := ⟨_, rfl⟩
  obtain ⟨W3, hW3⟩ : ∃ W, W = (((((w.alloc (.cells hz 27)).alloc (.cells #[.int .i64 0] 30)).alloc (.cells #[.slice none 0 0] 56)).alloc (.cells #[.string s] 9)).alloc (.cells #[.string ⟨#[46]⟩] 9)).alloc (.cells #[.int .i64 0] 3) := ⟨_, rfl⟩
  rw [show (.cells #[.int .i64 0, .string ⟨#[]⟩, .int .u32 0, .int .u16 0, .int .u16 0, .int .u16 0, .int .u16 0, .int .u16 0, .int .u16 0, .int .u16 0, .int .u16 0] 27 : Obj) = .cells hz 27 from rfl, ← hW3]
  have r1 : RowH (w.alloc (.cells hz 27)) w.heap.size hz := row_new w _ _
  have r2 := Boxed.new (w.alloc (.cells hz 27)) 30 (.int .i64 0)
  have r3 := Boxed.new ((w.alloc (.cells hz 27)).alloc (.cells #[.int .i64 0] 30)) 56 (.slice none 0 0)
  have r4 := Boxed.new (((w.alloc (.cells hz 27)).alloc (.cells #[.int .i64 0] 30)).alloc (.cells #[.slice none 0 0] 56)) 9 (.string s)
  have r5 := Boxed.new ((((w.alloc (.cells hz 27)).alloc (.cells #[.int .i64 0] 30)).alloc (.cells #[.slice none 0 0] 56)).alloc (.cells #[.string s] 9)) 9 (.string ⟨#[46]⟩)
  have r6 := Boxed.new (((((w.alloc (.cells hz 27)).alloc (.cells #[.int .i64 0] 30)).alloc (.cells #[.slice none 0 0] 56)).alloc (.cells #[.string s] 9)).alloc (.cells #[.string ⟨#[46]⟩] 9)) 3 (.int .i64 0)
  simp only [World.size_alloc] at r2 r3 r4 r5 r6
  have hz3 : W3.heap.size = B0 + 6 := by rw [hW3, hB0]; simp
  have hb3 : Below w.heap.size w W3 := by
    rw [hW3]
    exact (((((((Below.refl _ w).alloc (Nat.le_refl _) _).alloc (by simp) _).alloc (by simp; omega) _).alloc (by simp; omega) _).alloc (by simp; omega) _).alloc (by simp; omega) _)
  have a2 : RowH W3 B0 hz := by
    rw [hW3, hB0]
    exact Row.grown0 (Row.grown0 (Row.grown0 (Row.grown0 (Row.grown0 r1 (World.grownBy_alloc _ _ _)) (World.grownBy_alloc _ _ _)) (World.grownBy_alloc _ _ _)) (World.grownBy_alloc _ _ _)) (World.grownBy_alloc _ _ _)
  have a3 : Boxed W3 (B0 + 1) 30 (.int .i64 0) := by rw [hW3, hB0]; exact (((r2.alloc _).alloc _).alloc _).alloc _
  have a4 : Boxed W3 (B0 + 2) 56 (.slice none 0 0) := by rw [hW3, hB0]; exact ((r3.alloc _).alloc _).alloc _
  have a5 : Boxed W3 (B0 + 3) 9 (.string s) := by rw [hW3, hB0]; exact (r4.alloc _).alloc _
  have a6 : Boxed W3 (B0 + 3 + 1) 9 (.string ⟨#[46]⟩) := by rw [hW3, hB0]; exact r5.alloc _
  have a7 : Boxed W3 (B0 + 3 + 2) 3 (.int .i64 0) := by rw [hW3, hB0]; exact r6
  rw [← hB0]
  clear hW3 r1 r2 r3 r4 r5 r6
  have HZ := Lib.hid hz3
  have HB := Lib.hid hB0
  have HS := Lib.hid hs
  refine wpIn_rangeFunc_T (α := St9) rfl (by decide) (gf := 195) (lb := #[.pointer (some ⟨B0 + 3 + 1, 0, none⟩), .pointer (some ⟨B0 + 3, 0, none⟩), .pointer (some ⟨B0 + 3 + 2, 0, none⟩)]) rfl trivial (enters_of Tryz.func195 (by kernel_rfl) rfl)
    (enc := fun x : St9 => .string x.1) (Al := fun r => r = B0 + 3) (Kr := fun r => r = B0 + 3 ∨ r = B0 + 3 + 1 ∨ r = B0 + 3 + 2) (S := fun xs => xs.map (fun x => ls x.1) = splitL 46 (ls s)) (Sp := fun pre => pre.map (fun x => ls x.1) <+: splitL 46 (ls s)) (N := (splitL 46 (ls s)).length)
    (fun r h => by omega) (fun r h => by omega) (fun W0 hg => split_it _ (B0 + 3) s hs9 W0 (a5.kept hg (by simp)) (a6.kept hg (by simp)) (a7.kept hg (by simp))) rfl
    (fun pre W => BoxRow W (B0 + 2) 56 (B0 + 6) 9 1 pre.length (wv (nmA pre)) ∧ Row W B0 27 hz ∧ Boxed W (B0 + 1) 30 (.int .i64 0) ∧ (∀ x ∈ pre, (toA (ls x.1)).1 = 0) ∧ Below w.heap.size w W)
    (fun c pre W => (c = .ret ∧ ∃ p x, pre = p ++ [x] ∧ (∀ y ∈ p, (toA (ls y.1)).1 = 0) ∧ (toA (ls x.1)).1 ≠ 0) ∧ Row W B0 27 hz ∧ Boxed W (B0 + 1) 30 (.int .i64 (errOf pre : Nat)) ∧ Below w.heap.size w W)
    ((ownT_boxrow (B0 + 2) 56 (B0 + 6) 9 1 (fun pre : List St9 => pre.length) (fun pre => wv (nmA pre)) (by show ¬ (_ = _); omega) (fun r h => by omega)).and ((ownT_row B0 27 (fun _ => hz) (by show ¬ (_ = _); omega)).and ((ownT_box (B0 + 1) 30 (fun _ => .int .i64 0) (by show ¬ (_ = _); omega)).and ((ownT_pure _).and (ownT_below (Nat.le_refl _) (by omega) (fun r h => by omega))))))
    (fun c => (ownT_pure _).and ((ownT_row B0 27 (fun _ => hz) (by show ¬ (_ = _); omega)).and ((ownT_box (B0 + 1) 30 (fun pre : List St9 => .int .i64 (errOf pre : Nat)) (by show ¬ (_ = _); omega)).and (ownT_below (Nat.le_refl _) (by omega) (fun r h => by omega)))))
    ⟨⟨_, a4, World.ownsRow_nil _ _ _ _⟩, a2, a3, (fun x hx => by cases hx), hb3⟩
    (fun x => { tmps := #[.string s, undef, .pointer (some ⟨B0, 0, none⟩), .pointer (some ⟨B0 + 1, 0, none⟩), .pointer (some ⟨B0 + 1 + 1, 0, none⟩), .string x.1, undef, undef, .string s,
      .func (.func 195) #[] #[.pointer (some ⟨B0 + 1 + 1 + 1 + 1, 0, none⟩), .pointer (some ⟨B0 + 1 + 1 + 1, 0, none⟩), .pointer (some ⟨B0 + 1 + 1 + 1 + 2, 0, none⟩)], .string x.1, undef, undef, undef, undef, undef, undef, undef, undef, undef, undef, undef, undef, undef, undef, undef, undef, undef], defers := [] }) ?assign ?body ?done ?stop
  case assign =>
    intro l x W K hK
    clear hz3 hB0 hs hs9 a2 a3 a4 a5 a6 a7 hb3
    gi_wp2
    exact hK
  case body =>
    rintro l pre x W hl1 hl2 ⟨hbr, b2, b3, hp, hB⟩ hN9
    have hlen9 : pre.length ≤ 1000001 := by
      have := splitL_length 46 (ls s)
      rw [ls_length] at this
      omega
    have hN1 : B0 + 6 ≤ W.heap.size := by omega
    have c := hA x.1 W x.2 (u8_below HU.out hB)
    clear hz3 hB0 hs hs9 a2 a3 a4 a5 a6 a7 hb3 hN9 hl1 hl2
    obtain ⟨X, hX⟩ : ∃ X, X = bs (toA (ls x.1)).2 := ⟨_, rfl⟩
    obtain ⟨n1, hn1⟩ : ∃ n, n = (toA (ls x.1)).1 := ⟨_, rfl⟩
    rw [← hX, ← hn1] at c
    have HX := Lib.hid hX
    have HN := Lib.hid hn1
    clear hX hn1
    gi_wp2_with fail
    refine ⟨trivial, ?_⟩
    refine (CallsIn.inRound l (callsIn_wide.2 c)).mono ?_
    rintro e w4 ⟨rfl, hb4⟩
    replace hbr := hbr.later hb4
    replace b2 : Row w4 B0 27 hz := (hb4.block _ b2.lt).trans b2
    replace b3 : Boxed w4 (B0 + 1) 30 (.int .i64 0) := (hb4.block _ b3.lt).trans b3
    have hB4 := hB.trans (hb4.mono hB.size)
    have hk4 : KeepsFrom W3.heap.size W w4 := ⟨hb4.size, fun k o _ hk _ => (hb4.block k (Array.getElem?_eq_some_iff.1 hk).1).trans hk⟩
    have hs4 : SameAt (fun r => r = B0 + 3 ∨ r = B0 + 3 + 1 ∨ r = B0 + 3 + 2) W w4 := fun r h => hb4.block r (by omega)
    have hN4 : B0 + 6 ≤ w4.heap.size := Nat.le_trans hN1 hb4.size
    by_cases h0 : n1 = 0
    · have hq : ((n1 : Int) == 0) = true := by rw [h0]; rfl
      have hq2 : (!((n1 : Int) == 0)) = false := by rw [hq]; rfl
      have H0 := Lib.hid h0
      clear h0
      obtain ⟨v, hv, hr⟩ := hbr
      have k1 := hv.cell
      have hbB : B0 + 2 < B0 + 6 := by omega
      gi_wp2_with (gi_at_builtin; refine wpListIn_append_own _ rfl _ _ 56 rfl (B0 + 6) 9 i0 (.string ByteArray.empty) 1 16 tyStrs hi hz0 hz1 hz2 rfl (by decide) _ _ _ rfl (hr.alloc _) ⟨w4.heap.size, 0, none⟩ 1 1 [.string X] rfl rfl (cell_one_new _ _ _) (by simp [Value.oneCell']) (by unfold maxLen; omega) (by omega) (by simp; omega) ?_; intro v' w5 hown' hgrow _; obtain ⟨g', cap', rfl⟩ := ownsRow_succ hown'; obtain ⟨p1, p2, p3, p4, p5, p6⟩ := box_app hv hr hbB hN4 hown' hgrow; have q1 := p1.cell; have q2 := p1.frozen)
      refine ⟨hk4.trans (p4.from _), fun r h => (p5 r (by omega) (by omega)).trans (hs4 r h), ?_, (p5 B0 (by omega) (by omega)).trans b2, (p5 (B0 + 1) (by omega) (by omega)).trans b3, ?_, p6 _ _ (by have := HB.out; omega) hB4⟩
      · have e1 : wv (nmA pre) ++ [.string X] = wv (nmA (pre ++ [x])) := by
          have e2 : nmA (pre ++ [x]) = nmA pre ++ [(toA (ls x.1)).2] := List.map_append
          rw [e2, HX.out, wv_snoc]
        rw [← e1, List.length_append, List.length_singleton]
        exact p3
      · intro y hy
        rcases List.mem_append.1 hy with hy | hy
        · exact hp y hy
        · simp at hy
          rw [hy, ← HN.out]
          exact H0.out
    · have hq : ((n1 : Int) == 0) = false := by rw [beq_eq_false_iff_ne]; omega
      have hq2 : (!((n1 : Int) == 0)) = true := by rw [hq]; rfl
      have H0 := Lib.hid h0
      clear h0 hbr
      have k3 := b3.cell
      have f3 := b3.frozen
      gi_wp2_with (refine wpListIn_store_row _ rfl rfl _ _ _ rfl B0 (by exact rfl) hz (by exact rfl) _ _ b2 hostSize rfl (hc_one _ _ _ _) ?_; intro w5 hr5 hg5; have b5 : Boxed w5 (B0 + 1) 30 (.int .i64 0) := b3.kept hg5 (by simp); have k5 := b5.cell; have f5 := b5.frozen)
      refine ⟨(hk4.trans (KeepsFrom.of_grownBy hg5 (fun j e => by cases e; have := HZ.out; omega))).trans ((KeepsOthers.setCell _ _ _).from _), ⟨rfl, pre, x, rfl, hp, by rw [← HN.out]; exact H0.out⟩,
        (Below.heap_setCell _ _ _ B0 (by show B0 ≠ B0 + 1; omega)).trans hr5, ?_, (hB4.grown hg5 (by have := hB4.size; omega) (fun k e => by cases e; have := HB.out; omega)).setCell (p := ⟨B0 + 1, 0, none⟩) (by show w.heap.size ≤ B0 + 1; have := HB.out; omega) _⟩
      rw [errOf_snoc, ← HN.out]
      exact b5.set _
  case done =>
    rintro D xs W hD hS ⟨hbr, b2, b3, hp, hB⟩ hK
    obtain ⟨v, hv, hr⟩ := hbr
    rw [← nmA_length] at hr
    obtain ⟨A, cp, rfl, hh, hcp⟩ := Has.of_own hr
    have hL : (nmA xs).length ≤ 1000001 := by
      have := splitL_length 46 (ls s)
      rw [ls_length, ← hS, List.length_map] at this
      rw [nmA_length]
      omega
    have hJ := joinL_le (nmA xs) (nmA_le hp)
    have c := hjoined_any hN (nmA xs) A cp W.heap.size W hh (Nat.le_refl _) hcp (by omega) (by omega)
    have HE := Lib.hid (pD_all hS hp)
    unfold HostPost at c
    obtain ⟨Y, hY⟩ : ∃ Y, Y = (jN (nmA xs)).2.cells := ⟨_, rfl⟩
    have HY : Y.size = 11 ∧ Y.all (·.oneCell') = true := by rw [hY]; exact ⟨rfl, hc_one _ _ _ _⟩
    obtain ⟨n1, hn1⟩ : ∃ n, n = (jN (nmA xs)).1 := ⟨_, rfl⟩
    rw [← hY, ← hn1] at c
    have HYY := Lib.hid hY
    have HNN := Lib.hid hn1
    have k1 := hv.cell
    clear hz3 hB0 hs hs9 a2 a3 a4 a5 a6 a7 hb3 hY hn1 hJ hS
    gi_wp2_with fail
    refine ⟨trivial, ?_⟩
    refine (callsIn_wide.2 c).mono ?_
    rintro e w4 ⟨rfl, hb4⟩
    replace b2 : Row w4 B0 27 hz := (hb4.block _ b2.lt).trans b2
    replace b3 : Boxed w4 (B0 + 1) 30 (.int .i64 0) := (hb4.block _ b3.lt).trans b3
    have hB4 := hB.trans (hb4.mono hB.size)
    have hK4 : w4.heap[D]? = some (.deferred (some [])) := (hb4.block D (Array.getElem?_eq_some_iff.1 hK).1).trans hK
    clear hb4 hK hv k1 hr hh
    gi_wp2_with (refine wpListIn_store_row _ rfl rfl _ _ _ rfl B0 (by exact rfl) Y (by exact rfl) _ _ b2 (by rw [HY.1]; exact hostSize) (by rw [HY.1]; rfl) HY.2 ?_; intro w5 hr5 hg5; have b5 : Boxed w5 (B0 + 1) 30 (.int .i64 0) := b3.kept hg5 (by simp); have k5 := b5.cell; have f5 := b5.frozen)
    have b6 := b5.set (.int .i64 (n1 : Nat))
    have hr6 : RowH (w5.setCell ⟨B0 + 1, 0, none⟩ (.int .i64 (n1 : Nat))) B0 Y := (Below.heap_setCell _ _ _ B0 (by show B0 ≠ B0 + 1; omega)).trans hr5
    have hB6 : Below w.heap.size w (w5.setCell ⟨B0 + 1, 0, none⟩ (.int .i64 (n1 : Nat))) := (hB4.grown hg5 (by have := hB4.size; omega) (fun k e => by cases e; have := HB.out; omega)).setCell (p := ⟨B0 + 1, 0, none⟩) (by show w.heap.size ≤ B0 + 1; have := HB.out; omega) _
    have hK6 : (w5.setCell ⟨B0 + 1, 0, none⟩ (.int .i64 (n1 : Nat))).heap[D]? = some (.deferred (some [])) := (Below.heap_setCell _ _ _ D (by show D ≠ B0 + 1; have := HZ.out; omega)).trans ((hg5.block D (Array.getElem?_eq_some_iff.1 hK4).1 (by have := HZ.out; simp; omega)).trans hK4)
    refine ⟨by simp, .inl ⟨_, _, rfl, run_takeDeferred hK6, ?_⟩⟩
    have hr7 : RowH ((w5.setCell ⟨B0 + 1, 0, none⟩ (.int .i64 (n1 : Nat))).putObj D (.deferred none)) B0 Y := (World.putObj_heap_other (by have := HZ.out; omega)).trans hr6
    have hc7 := cell_kept b6.cell (grownBy_putObj' _ D (.deferred none)) (fun r e => by cases e; exact ⟨_, hK6, rfl⟩)
    refine ⟨.tuple #[.agg Y, .int .i64 (n1 : Nat)], ?_, ⟨?_, hB6.trans (belowK_b (w := w) (Nat.le_refl _) _ D _ _ (by have := HZ.out; have := HB.out; omega) hK6 rfl rfl)⟩⟩
    · exact results_two 2 3 rfl B0 (B0 + 1) rfl rfl Y hr7 HY.1 _ hc7 rfl
    · rw [HE.out, ← HYY.out, ← HNN.out]
  case stop =>
    rintro D c pre W hD hpre ⟨⟨rfl, p, x, rfl, hp, hx⟩, b2, b3, hB⟩ hK
    have HE := Lib.hid (pD_stop hpre hp hx)
    rw [errOf_snoc] at b3
    clear hz3 hB0 hs hs9 a2 a3 a4 a5 a6 a7 hb3
    gi_wp2
    refine ⟨by simp, .inl ⟨_, _, rfl, run_takeDeferred hK, ?_⟩⟩
    have hr7 : RowH (W.putObj D (.deferred none)) B0 hz := (World.putObj_heap_other (by have := HZ.out; omega)).trans b2
    have hc7 := cell_kept b3.cell (grownBy_putObj' _ D (.deferred none)) (fun r e => by cases e; exact ⟨_, hK, rfl⟩)
    refine ⟨.tuple #[.agg hz, .int .i64 ((toA (ls x.1)).1 : Nat)], ?_, ⟨?_, hB.trans (belowK_b (w := w) (Nat.le_refl _) _ D _ _ (by have := HZ.out; have := HB.out; omega) hK rfl rfl)⟩⟩
    · exact results_two 2 3 rfl B0 (B0 + 1) rfl rfl hz hr7 rfl _ hc7 rfl
    · rw [HE.out]
      rfl
end

section
open Go.RowKit Go.Shelf
/-- What the walks ask of the world: the library's tables. -/
def Hw (w : World) : Prop := Pow6 w ∧ U8 w ∧ SynE w
theorem hw_below {w w' : World} (h : Hw w) (hb : Below w.heap.size w w') : Hw w' := ⟨pow6_below h.1 hb, u8_below h.2.1 hb, syn_below h.2.2 hb⟩
def HoPar (F : FuncId) : Prop := ∀ (s : ByteArray) (w : World), s.size ≤ 1000000000 → Hw w → Calls Tryz.prog F #[.string s] w (HostPost w (parseH (ls s)))
theorem parse6_pB (t : List UInt8) : parse6H (91 :: t) = pB t := by
  unfold parse6H pB
  cases t with
  | nil => rfl
  | cons a t =>
    have e1 : (91 :: a :: t).getLast? = (a :: t).getLast? := by simp [List.getLast?_cons_cons]
    have e2 : ¬ (91 :: a :: t).length < 2 := by simp
    rw [e1]
    by_cases h : (a :: t).getLast? = some 93
    · rw [if_neg (by simp [h]), if_pos h]
      rfl
    · rw [if_pos (.inl h), if_neg h]
theorem parseD_pd (s : List UInt8) : parseD s = if numericL s = true then pN s else pD s := rfl
theorem pre_one (c : UInt8) (l : List UInt8) : Lib.hasPrefix l [c] = decide (l.head? = some c) := by
  unfold Lib.hasPrefix
  rw [Bool.eq_iff_iff, List.isPrefixOf_iff_prefix, decide_eq_true_iff]
  cases l with
  | nil => simp
  | cons a t => simp [eq_comm]
theorem cutP_any (s : ByteArray) (w : World) : Calls Tryz.prog 82 #[.string s, .string ⟨#[91]⟩] w fun e w' =>
    e = .returned (.tuple #[.string (if (ls s).head? = some 91 then bs ((ls s).drop 1) else s), .bool (decide ((ls s).head? = some 91))]) ∧ w' = w := by
  have c := Any.strings_CutPrefix Tryz.lays103 s ⟨#[91]⟩ w
  have e : Lib.hasPrefix s.data.toList (⟨#[91]⟩ : ByteArray).data.toList = decide ((ls s).head? = some 91) := pre_one 91 (ls s)
  unfold Lib.trimPrefix at c
  rw [e] at c
  refine c.mono ?_
  rintro r w' ⟨rfl, rfl⟩
  refine ⟨?_, rfl⟩
  by_cases h : (ls s).head? = some 91
  · rw [decide_eq_true h, if_pos rfl, if_pos h]
    rfl
  · rw [decide_eq_false h, if_neg (by simp), if_neg h]
theorem pctGo_len : ∀ (f : Nat) (l m : List UInt8), pctGo f l = some m → m.length ≤ l.length
  | _, [], m, h => by
    have : m = [] := by
      rename_i f
      cases f <;> (rw [pctGo] at h; injection h with h; exact h.symm)
    rw [this]
    exact Nat.le_refl _
  | 0, b :: r, m, h => by cases h
  | f + 1, b :: r, m, h => by
    rw [pctGo] at h
    split at h
    · cases hp : pctGo f r with
      | none => rw [hp] at h; cases h
      | some q =>
        rw [hp] at h
        injection h with h
        subst h
        have := pctGo_len f r q hp
        simp
        omega
    · split at h
      · cases hp : pctGo f (r.drop 2) with
        | none => rw [hp] at h; cases h
        | some q =>
          rw [hp] at h
          injection h with h
          subst h
          have := pctGo_len f (r.drop 2) q hp
          rw [List.length_drop] at this
          simp
          omega
      · cases h
theorem pct_len {l m : List UInt8} (h : pctL l = some m) : m.length ≤ l.length := pctGo_len _ l m h
theorem undot_len (l : List UInt8) : (undot l).length ≤ l.length := undot_le l
theorem trimS_any (s : ByteArray) (w : World) (hs : s.size ≤ 1000000000) : Calls Tryz.prog 53 #[.string s, .string ⟨#[46]⟩] w fun e w' => e = .returned (.string (bs (undot (ls s)))) ∧ w' = w := by
  have c := Any.strings_TrimSuffix Tryz.lays102 s ⟨#[46]⟩ w (by omega)
  have HE : (⟨(Lib.trimSuffix s.data.toList (⟨#[46]⟩ : ByteArray).data.toList).toArray⟩ : ByteArray) = bs (undot (ls s)) := by rw [show Lib.trimSuffix s.data.toList (⟨#[46]⟩ : ByteArray).data.toList = undot (ls s) from trim_undot (ls s)]; rfl
  rw [HE] at c
  exact c
set_option maxRecDepth 20000 in
set_option maxHeartbeats 4000000 in
theorem parse_host (hN : HoNum 111) (hP4 : HoPN 148) (hP6 : HoP6 142) (hA : LbTA 149) : HoPar 86 := by
  intro s w hs hw
  have hr0 : RowH (w.alloc (.cells hz 27)) w.heap.size hz := row_new w _ _
  have hb0 : Below w.heap.size w (w.alloc (.cells hz 27)) := (Below.refl _ _).alloc (Nat.le_refl _) _
  have hw0 := hw_below hw hb0
  have c1 := fun W => cutP_any s W
  unfold parseH
  rw [ls_length]
  by_cases h1 : 1024 < s.size
  · rw [if_pos h1]
    have hd : decide ((1024 : Int) < (s.size : Int)) = true := decide_eq_true (by omega)
    clear c1 h1
    go_enter Tryz.func86, Tryz.ntmps86
    go_wp2
    exact ret_host 2 3 rfl w.heap.size rfl hz (row_new w _ _) rfl _ rfl rfl ⟨rfl, (Below.refl _ _).alloc (Nat.le_refl _) _⟩
  · rw [if_neg h1]
    have hd : decide ((1024 : Int) < (s.size : Int)) = false := decide_eq_false (by omega)
    by_cases h2 : (ls s).head? = some 91
    · rw [if_pos h2]
      simp only [if_pos h2, decide_eq_true h2] at c1
      have hT : ls s = 91 :: (ls s).drop 1 := by
        cases hl : ls s with
        | nil => rw [hl] at h2; cases h2
        | cons a t =>
          rw [hl] at h2
          injection h2 with h2
          rw [h2]
          rfl
      have e1 : parse6H (ls s) = pB ((ls s).drop 1) := by rw [hT]; exact parse6_pB _
      rw [e1]
      have hX : (bs ((ls s).drop 1)).size ≤ 1000000000 := by rw [bs_size, List.length_drop, ls_length]; omega
      have c2 := parseBracketed_any hP6 (bs ((ls s).drop 1)) _ hX hw0.1
      rw [ls_bs] at c2
      unfold HostPost at c2 ⊢
      obtain ⟨X, hXe⟩ : ∃ X, X = bs ((ls s).drop 1) := ⟨_, rfl⟩
      obtain ⟨Y, hY⟩ : ∃ Y, Y = (pB ((ls s).drop 1)).2.cells := ⟨_, rfl⟩
      have HY : Y.size = 11 ∧ Y.all (·.oneCell') = true := by rw [hY]; exact ⟨rfl, hc_one _ _ _ _⟩
      obtain ⟨n1, hn1⟩ : ∃ n, n = (pB ((ls s).drop 1)).1 := ⟨_, rfl⟩
      rw [← hXe, ← hY, ← hn1] at c2
      simp only [← hXe] at c1
      rw [← hY, ← hn1]
      clear hXe hY hn1 hX e1 hT h2 h1 hw hw0
      go_enter Tryz.func86, Tryz.ntmps86
      go_wp2_with fail
      refine (c1 _).mono ?_
      rintro e w0 ⟨rfl, rfl⟩
      go_wp2_with fail
      refine c2.mono ?_
      rintro e w1 ⟨rfl, hb1⟩
      have hr1 : RowH w1 w.heap.size hz := Row.below hr0 hb1 hr0.lt
      replace hb1 := hb0.trans (hb1.mono hb0.size)
      clear hr0 hb0 c1 c2
      go_wp2_with (refine wpList_store_host rfl rfl _ _ rfl w.heap.size (by exact rfl) Y (by exact rfl) _ hr1 rfl HY.1 HY.2 ?_; intro w2 hr2 hg2)
      exact ret_host 2 3 rfl w.heap.size rfl Y hr2 HY.1 _ rfl rfl ⟨rfl, below_row hb1 hg2 (Nat.le_refl _) (Nat.le_refl _)⟩
    · rw [if_neg h2]
      simp only [if_neg h2, decide_eq_false h2] at c1
      have c2 := unescaped_any s (by omega) _ hw0.2.2
      cases hp : pctL (ls s) with
      | none =>
        rw [hp] at c2
        clear h1 h2 hp hw hw0
        go_enter Tryz.func86, Tryz.ntmps86
        go_wp2_with fail
        refine (c1 _).mono ?_
        rintro e w0 ⟨rfl, rfl⟩
        go_wp2_with fail
        refine c2.mono ?_
        rintro e w1 ⟨rfl, hb1⟩
        have hr1 : RowH w1 w.heap.size hz := Row.below hr0 hb1 hr0.lt
        replace hb1 := hb0.trans (hb1.mono hb0.size)
        clear hr0 hb0 c1 c2
        go_wp2_with (refine wpList_store_host rfl rfl _ _ rfl w.heap.size (by exact rfl) hz (by exact rfl) _ hr1 rfl rfl (hc_one _ _ _ _) ?_; intro w2 hr2 hg2)
        exact ret_host 2 3 rfl w.heap.size rfl hz hr2 rfl _ rfl rfl ⟨rfl, below_row hb1 hg2 (Nat.le_refl _) (Nat.le_refl _)⟩
      | some m =>
        rw [hp] at c2
        rw [show (some m).getD [] = m from rfl, show (some m).isSome = true from rfl] at c2
        have hm := pct_len hp
        rw [ls_length] at hm
        have hu := undot_len m
        simp only []
        rw [parseD_pd]
        have hz1 : (bs (undot m)).size ≤ 1000000 := by rw [bs_size]; omega
        have c3 := fun W => trimS_any (bs m) W (by rw [bs_size]; omega)
        have c4 := fun W => hN (bs (undot m)) W (by omega)
        have c5 := fun W => parseNumbers_any hP4 (bs (undot m)) W (by omega)
        have c6 := fun W hU => parseDomain_any hN hA (bs (undot m)) W hz1 hU
        simp only [ls_bs] at c3 c4 c5 c6
        unfold HostPost at c5 c6 ⊢
        have HW := Lib.hid hw
        obtain ⟨X, hX⟩ : ∃ X, X = bs (undot m) := ⟨_, rfl⟩
        obtain ⟨M, hM⟩ : ∃ M, M = bs m := ⟨_, rfl⟩
        simp only [← hX, ← hM] at c2 c3 c4 c5 c6
        cases hq : numericL (undot m) with
        | true =>
          simp only [hq] at c4
          rw [if_pos rfl]
          obtain ⟨Y, hY⟩ : ∃ Y, Y = (pN (undot m)).2.cells := ⟨_, rfl⟩
          have HY : Y.size = 11 ∧ Y.all (·.oneCell') = true := by rw [hY]; exact ⟨rfl, hc_one _ _ _ _⟩
          obtain ⟨n1, hn1⟩ : ∃ n, n = (pN (undot m)).1 := ⟨_, rfl⟩
          simp only [← hY, ← hn1] at c5 ⊢
          clear h1 h2 hp hw hw0 hX hM hm hu hz1 c6 hq hY hn1
          go_enter Tryz.func86, Tryz.ntmps86
          go_wp2_with fail
          refine (c1 _).mono ?_
          rintro e w0 ⟨rfl, rfl⟩
          go_wp2_with fail
          refine c2.mono ?_
          rintro e w1 ⟨rfl, hb1⟩
          have hr1 : RowH w1 w.heap.size hz := Row.below hr0 hb1 hr0.lt
          replace hb1 := hb0.trans (hb1.mono hb0.size)
          clear hr0 hb0 c1 c2
          go_wp2_with fail
          refine (c3 _).mono ?_
          rintro e w2 ⟨rfl, rfl⟩
          go_wp2_with fail
          refine (c4 _).mono ?_
          rintro e w3 ⟨rfl, hb3⟩
          replace hr1 : RowH w3 w.heap.size hz := Row.below hr1 hb3 hr1.lt
          replace hb3 := hb1.trans (hb3.mono hb1.size)
          clear hb1
          go_wp2_with fail
          refine (c5 _).mono ?_
          rintro e w4 ⟨rfl, hb4⟩
          replace hr1 : RowH w4 w.heap.size hz := Row.below hr1 hb4 hr1.lt
          replace hb4 := hb3.trans (hb4.mono hb3.size)
          clear hb3
          go_wp2_with (refine wpList_store_host rfl rfl _ _ rfl w.heap.size (by exact rfl) Y (by exact rfl) _ hr1 rfl HY.1 HY.2 ?_; intro w5 hr5 hg5)
          exact ret_host 2 3 rfl w.heap.size rfl Y hr5 HY.1 _ rfl rfl ⟨rfl, below_row hb4 hg5 (Nat.le_refl _) (Nat.le_refl _)⟩
        | false =>
          simp only [hq] at c4
          rw [if_neg (by simp)]
          obtain ⟨Y, hY⟩ : ∃ Y, Y = (pD (undot m)).2.cells := ⟨_, rfl⟩
          have HY : Y.size = 11 ∧ Y.all (·.oneCell') = true := by rw [hY]; exact ⟨rfl, hc_one _ _ _ _⟩
          obtain ⟨n1, hn1⟩ : ∃ n, n = (pD (undot m)).1 := ⟨_, rfl⟩
          simp only [← hY, ← hn1] at c6 ⊢
          clear h1 h2 hp hw hw0 hX hM hm hu hz1 c5 hq hY hn1
          go_enter Tryz.func86, Tryz.ntmps86
          go_wp2_with fail
          refine (c1 _).mono ?_
          rintro e w0 ⟨rfl, rfl⟩
          go_wp2_with fail
          refine c2.mono ?_
          rintro e w1 ⟨rfl, hb1⟩
          have hr1 : RowH w1 w.heap.size hz := Row.below hr0 hb1 hr0.lt
          replace hb1 := hb0.trans (hb1.mono hb0.size)
          clear hr0 hb0 c1 c2
          go_wp2_with fail
          refine (c3 _).mono ?_
          rintro e w2 ⟨rfl, rfl⟩
          go_wp2_with fail
          refine (c4 _).mono ?_
          rintro e w3 ⟨rfl, hb3⟩
          replace hr1 : RowH w3 w.heap.size hz := Row.below hr1 hb3 hr1.lt
          replace hb3 := hb1.trans (hb3.mono hb1.size)
          clear hb1
          have c7 := c6 w3 (hw_below HW.out hb3).2.1
          clear c6
          go_wp2_with fail
          refine c7.mono ?_
          rintro e w4 ⟨rfl, hb4⟩
          replace hr1 : RowH w4 w.heap.size hz := Row.below hr1 hb4 hr1.lt
          replace hb4 := hb3.trans (hb4.mono hb3.size)
          clear hb3
          go_wp2_with (refine wpList_store_host rfl rfl _ _ rfl w.heap.size (by exact rfl) Y (by exact rfl) _ hr1 rfl HY.1 HY.2 ?_; intro w5 hr5 hg5)
          exact ret_host 2 3 rfl w.heap.size rfl Y hr5 HY.1 _ rfl rfl ⟨rfl, below_row hb4 hg5 (Nat.le_refl _) (Nat.le_refl _)⟩
end

end Go.Proofs.YtdfacgncphmcoaaGreatDoor
