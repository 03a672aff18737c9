/-
The program's Labels, ValidName, Covers of package host.
Contracts of hex, double and hexText of the reference of layer 11 (written by tools/gen-I61.py).
-/
import Derived.Test.YtpccpgihldpiiaaGreatDoorB08
import Derived.Test.YtpccpgihldpiiaaGreatDoorB10
import Derived.Test.YtpccpgihldpiiaaGreatDoorB11
import Derived.Test.YtpccpgihldpiiaaGreatDoorB09
import Derived.Test.YtpccpgihldpiiaaGreatDoorB02
import Derived.BigQuiet
namespace Go.Proofs.YtpccpgihldpiiaaGreatDoor
section
open Go.RowKit Go.Shelf
attribute [local go_sem] Oper.semAt_some

def HoNum (F : FuncId) : Prop := ∀ (s : ByteArray) (w : World), s.size ≤ 1000000000 → Calls Tryz.prog F #[.string s] w fun e w' => e = .returned (.bool (numericL (ls s))) ∧ Below w.heap.size w w'
def HoLab (F : FuncId) : Prop := ∀ (s : ByteArray) (w : World), s.size ≤ 1000000000 → Calls Tryz.prog F #[.string s] w fun e w' => e = .returned (.int .i64 (labelsL (ls s) : Nat)) ∧ Below w.heap.size w w'
def HoVn (F : FuncId) : Prop := ∀ (s : ByteArray) (w : World), s.size ≤ 1000000000 → Calls Tryz.prog F #[.string s] w fun e w' => e = .returned (.bool (vnL (ls s))) ∧ Below w.heap.size w w'
def HoCov (F : FuncId) : Prop := ∀ (s t : ByteArray) (w : World), s.size ≤ 1000000000 → t.size ≤ 1000000000 → Calls Tryz.prog F #[.string s, .string t] w fun e w' => e = .returned (.bool (coversL (ls s) (ls t))) ∧ Below w.heap.size w w'

theorem lab_nil : labL [] = false := rfl
theorem labels_long {l : List UInt8} (h : 253 < l.length) : labelsL l = 0 := by
  unfold labelsL
  rw [if_neg]
  intro hv
  have := ((vn_iff l).1 hv).len
  omega
theorem labels_num {l : List UInt8} (h : numericL l = true) : labelsL l = 0 := by
  unfold labelsL
  rw [if_neg]
  intro hv
  have := ((vn_iff l).1 hv).num
  rw [h] at this
  cases this
theorem labels_bad {l x : List UInt8} (h : x ∈ splitL 46 l) (hx : labL x = false) : labelsL l = 0 := by
  unfold labelsL
  rw [if_neg]
  intro hv
  have := ((vn_iff l).1 hv).lab x h
  rw [hx] at this
  cases this
theorem labels_all {l : List UInt8} (h1 : l.length ≤ 253) (h2 : numericL l = false) (h3 : ∀ x ∈ splitL 46 l, labL x = true) : labelsL l = (splitL 46 l).length := by
  unfold labelsL
  rw [if_pos]
  refine (vn_iff l).2 ⟨?_, h1, h2, h3⟩
  rintro rfl
  have := h3 [] (by decide)
  cases this
theorem labels_pos (l : List UInt8) : decide ((0 : Int) < (labelsL l : Nat)) = vnL l := by
  unfold labelsL
  cases h : vnL l with
  | true =>
    rw [if_pos rfl]
    have := splitL_pos 46 l
    exact decide_eq_true (by omega)
  | false =>
    rw [if_neg (by simp)]
    rfl

set_option maxRecDepth 100000 in
set_option maxHeartbeats 4000000 in
theorem lab_any (hN : HoNum 48) (hV : LbVal 59) : HoLab 18 := by
  intro s w hs
  have cN := fun W => hN s W hs
  by_cases h1 : 253 < s.size
  · have e0 : labelsL (ls s) = 0 := labels_long (by rw [ls_length]; exact h1)
    rw [e0]
    have hd : decide ((253 : Int) < (s.size : Int)) = true := decide_eq_true (by omega)
    clear cN e0
    go_enter Tryz.func18, Tryz.ntmps18
    go_wp2
    have bx := (Boxed.new w 3 (.int .i64 0)).cell
    refine bodyPost_ret (v := .int .i64 0) ?_ rfl ⟨rfl, (Below.refl _ w).alloc (Nat.le_refl _) _⟩
    simp [results, Tryz.f18, go_sem, bx]
  · have hd : decide ((253 : Int) < (s.size : Int)) = false := decide_eq_false (by omega)
    cases hq : numericL (ls s) with
    | true =>
      rw [hq] at cN
      rw [labels_num hq]
      clear hq
      go_enter Tryz.func18, Tryz.ntmps18
      go_wp2_with fail
      refine (cN _).mono ?_
      rintro e w1 ⟨rfl, hb1⟩
      have bR : Boxed w1 w.heap.size 3 (.int .i64 0) := (hb1.block _ (by simp)).trans (Boxed.new w 3 (.int .i64 0))
      have hb0 : Below w.heap.size w w1 := ((Below.refl _ w).alloc (Nat.le_refl _) _).trans (hb1.mono (by rw [World.size_alloc]; omega))
      have k1 := bR.cell
      have f1 := bR.frozen
      go_wp2
      have bx := (bR.set (.int .i64 0)).cell
      refine bodyPost_ret (v := .int .i64 0) ?_ rfl ⟨rfl, hb0.setCell (p := ⟨w.heap.size, 0, none⟩) (Nat.le_refl _) _⟩
      simp [results, Tryz.f18, go_sem, bx]
    | false =>
      rw [hq] at cN
      refine (callsIn_wide (n := 3)).1 ?_
      refine callsIn_of_wp_marks Tryz.func18 rfl trivial ?_ rfl
      simp only [Tryz.ntmps18, List.size_toArray, List.length_cons, List.length_nil, Nat.reduceAdd, Nat.reduceSub, Array.replicate_succ, Array.replicate_zero, List.push_toArray, List.append_toArray, List.nil_append, List.cons_append]
      gi_wp2_with fail
      refine ⟨trivial, ?_⟩
      refine (callsIn_wide.2 (cN _)).mono ?_
      rintro e w1 ⟨rfl, hb1⟩
      have bR := (Boxed.new w 3 (.int .i64 0))
      gi_wp2_with fail
      refine ⟨trivial, ?_⟩
      refine (callsIn_wide.2 (seq_any s _)).mono ?_
      rintro e w2 ⟨rfl, rfl⟩
      gi_wp2_with fail
      obtain ⟨B0, hB0⟩ : ∃ b, b = w.heap.size := ⟨_, rfl⟩
      obtain ⟨Bc, hBc⟩ : ∃ b, b = w1.heap.size := ⟨_, rfl⟩
      have hlt : B0 < Bc := by have := hb1.size; rw [World.size_alloc] at this; omega
      have hb0 : Below w.heap.size w w1 := ((Below.refl _ w).alloc (Nat.le_refl _) _).trans (hb1.mono (by rw [World.size_alloc]; omega))
      have r1 : Boxed w1 B0 3 (.int .i64 0) := (hb1.block B0 (by rw [World.size_alloc]; omega)).trans (by rw [hB0]; exact bR)
      have q1 := Boxed.new w1 3 (.int .i64 0)
      have q2 := Boxed.new (w1.alloc (.cells #[.int .i64 0] 3)) 9 (.string s)
      have q3 := Boxed.new ((w1.alloc (.cells #[.int .i64 0] 3)).alloc (.cells #[.string s] 9)) 9 (.string ⟨#[46]⟩)
      have q4 := Boxed.new (((w1.alloc (.cells #[.int .i64 0] 3)).alloc (.cells #[.string s] 9)).alloc (.cells #[.string ⟨#[46]⟩] 9)) 3 (.int .i64 0)
      simp only [World.size_alloc] at q1 q2 q3 q4
      obtain ⟨W3, hW3⟩ : ∃ W, W = (((w1.alloc (.cells #[.int .i64 0] 3)).alloc (.cells #[.string s] 9)).alloc (.cells #[.string ⟨#[46]⟩] 9)).alloc (.cells #[.int .i64 0] 3) := ⟨_, rfl⟩
      rw [← hW3]
      have hb3 : Below w.heap.size w W3 := by
        rw [hW3]
        exact (((hb0.alloc hb0.size _).alloc (by simp; omega) _).alloc (by simp; omega) _).alloc (by simp; omega) _
      have hz3 : W3.heap.size = Bc + 4 := by rw [hW3, hBc]; simp
      have r3 : Boxed W3 B0 3 (.int .i64 0) := by rw [hW3]; exact (((r1.alloc _).alloc _).alloc _).alloc _
      have c3 : Boxed W3 Bc 3 (.int .i64 0) := by rw [hW3, hBc]; exact ((q1.alloc _).alloc _).alloc _
      have s3 : Boxed W3 (Bc + 1) 9 (.string s) := by rw [hW3, hBc]; exact (q2.alloc _).alloc _
      have d3 : Boxed W3 (Bc + 1 + 1) 9 (.string ⟨#[46]⟩) := by rw [hW3, hBc]; exact q3.alloc _
      have v3 : Boxed W3 (Bc + 1 + 2) 3 (.int .i64 0) := by rw [hW3, hBc]; exact q4
      rw [← hB0, ← hBc]
      clear hW3 q1 q2 q3 q4 r1 bR hb1 hBc hb0
      have HZ := Lib.hid hz3
      have HB := Lib.hid hB0
      have H1 := Lib.hid h1
      have HQ := Lib.hid hq
      refine wpIn_rangeFunc_T (α := St9) rfl (by decide) (gf := 136) (lb := #[.pointer (some ⟨Bc + 1 + 1, 0, none⟩), .pointer (some ⟨Bc + 1, 0, none⟩), .pointer (some ⟨Bc + 1 + 2, 0, none⟩)]) rfl trivial (enters_of Tryz.func136 (by kernel_rfl) rfl)
        (enc := fun x : St9 => .string x.1) (Al := fun r => r = Bc + 1) (Kr := fun r => r = Bc + 1 ∨ r = Bc + 1 + 1 ∨ r = Bc + 1 + 2) (S := fun xs => xs.map (fun x => ls x.1) = splitL 46 (ls s)) (Sp := fun pre => pre.map (fun x => ls x.1) <+: splitL 46 (ls s)) (N := (splitL 46 (ls s)).length)
        (fun r h => by omega) (fun r h => by omega) (fun W0 hg => split_it _ (Bc + 1) s hs W0 (s3.kept hg (by simp)) (d3.kept hg (by simp)) (v3.kept hg (by simp))) rfl
        (fun pre W => Boxed W B0 3 (.int .i64 0) ∧ Boxed W Bc 3 (.int .i64 (pre.length : Nat)) ∧ (∀ x ∈ pre, labL (ls x.1) = true) ∧ Below w.heap.size w W)
        (fun c pre W => c = .ret ∧ (∃ x ∈ pre, labL (ls x.1) = false) ∧ Boxed W B0 3 (.int .i64 0) ∧ Below w.heap.size w W)
        ((ownT_box B0 3 (fun _ => .int .i64 0) (by show ¬ (_ = _); omega)).and ((ownT_box Bc 3 (fun pre : List St9 => .int .i64 (pre.length : Nat)) (by show ¬ (_ = _); omega)).and ((ownT_pure _).and (ownT_below (Nat.le_refl _) (by omega) (fun r h => by omega)))))
        (fun c => (ownT_pure _).and ((ownT_pure _).and ((ownT_box B0 3 (fun _ => .int .i64 0) (by show ¬ (_ = _); omega)).and (ownT_below (Nat.le_refl _) (by omega) (fun r h => by omega)))))
        ⟨r3, c3, (fun x hx => by cases hx), hb3⟩
        (fun x => { tmps := #[.string s, undef, .pointer (some ⟨B0, 0, none⟩), .pointer (some ⟨Bc, 0, none⟩), .string x.1, .string s, .int .i64 s.size, .bool false, .bool false, .string s, .bool false, .bool false, .string s,
          .func (.func 136) #[] #[.pointer (some ⟨Bc + 1 + 1, 0, none⟩), .pointer (some ⟨Bc + 1, 0, none⟩), .pointer (some ⟨Bc + 1 + 2, 0, none⟩)], .string x.1, undef, undef, undef, undef, undef, undef], defers := [] }) ?assign ?body ?done ?stop
      case assign =>
        intro l x W K hK
        clear hz3 hB0 cN hd h1 hq
        gi_wp2
        exact hK
      case body =>
        rintro l pre x W hl1 hl2 ⟨b1, b2, hp, hB⟩ hN9
        have HW : Hid (wrap64 ((pre.length : Int) + 1) = (((pre ++ [x]).length : Nat) : Int)) := by
          show _ = _
          have := splitL_length 46 (ls s)
          rw [ls_length] at this
          rw [List.length_append, List.length_singleton]
          unfold wrap64
          omega
        clear hN9
        have c := hV x.1 W x.2
        clear hz3 hB0 cN hd h1 hq hb3 r3 c3 s3 d3 v3
        obtain ⟨q, hq2⟩ : ∃ q, q = labL (ls x.1) := ⟨_, rfl⟩
        rw [← hq2] at c
        gi_wp2_with fail
        refine ⟨trivial, ?_⟩
        refine (CallsIn.inRound l (callsIn_wide.2 c)).mono ?_
        rintro e w4 ⟨rfl, hb4⟩
        replace b1 : Boxed w4 B0 3 (.int .i64 0) := (hb4.block _ b1.lt).trans b1
        replace b2 : Boxed w4 Bc 3 (.int .i64 (pre.length : Nat)) := (hb4.block _ b2.lt).trans b2
        have hB4 := hB.trans (hb4.mono hB.size)
        have hk4 : KeepsFrom W3.heap.size W w4 := ⟨hb4.size, fun k o _ hk _ => (hb4.block k (Array.getElem?_eq_some_iff.1 hk).1).trans hk⟩
        have hs4 : SameAt (fun r => r = Bc + 1 ∨ r = Bc + 1 + 1 ∨ r = Bc + 1 + 2) W w4 := fun r h => hb4.block r (by have := HZ.out; omega)
        have k1 := b1.cell
        have k2 := b2.cell
        have f1 := b1.frozen
        have f2 := b2.frozen
        have HX := Lib.hid hq2
        clear hq2
        cases q with
        | false =>
          gi_wp2
          exact ⟨hk4.trans ((KeepsOthers.setCell _ _ _).from _), rfl, ⟨x, by simp, HX.out.symm⟩, b1.set _, hB4.setCell (p := ⟨B0, 0, none⟩) (by show w.heap.size ≤ B0; have := HB.out; omega) _⟩
        | true =>
          gi_wp2
          refine ⟨hk4.trans ((KeepsOthers.setCell _ _ _).from _), fun r h => (Below.heap_setCell _ _ _ r (by show r ≠ Bc; omega)).trans (hs4 r h), boxed_other b1 (by omega), ?_, ?_, hB4.setCell (p := ⟨Bc, 0, none⟩) (by show w.heap.size ≤ Bc; have := HB.out; omega) _⟩
          · rw [HW.out]
            exact b2.set _
          · intro y hy
            rcases List.mem_append.1 hy with hy | hy
            · exact hp y hy
            · simp at hy
              rw [hy]
              exact HX.out.symm
      case done =>
        rintro D xs W hD hS ⟨b1, b2, hp, hB⟩ hK
        have k1 := b1.cell
        have k2 := b2.cell
        have f1 := b1.frozen
        clear hz3 hB0 cN hd h1 hq hb3 r3 c3 s3 d3 v3
        gi_wp2
        have b3 := b1.set (.int .i64 (xs.length : Nat))
        have hK2 := (KeepsOthers.setCell W ⟨B0, 0, none⟩ (.int .i64 (xs.length : Nat))).same D _ hK rfl
        refine ⟨by simp, .inl ⟨_, _, rfl, run_takeDeferred hK2, ?_⟩⟩
        have hc5 := cell_kept b3.cell (grownBy_putObj' _ D (.deferred none)) (fun r e => by cases e; exact ⟨_, hK2, rfl⟩)
        have hlen : labelsL (ls s) = xs.length := by
          rw [labels_all (by rw [ls_length]; have := H1.out; omega) HQ.out, ← hS, List.length_map]
          intro y hy
          rw [← hS] at hy
          obtain ⟨z, hz, rfl⟩ := List.mem_map.1 hy
          exact hp z hz
        refine ⟨.int .i64 (xs.length : Nat), ?_, by rw [hlen], (hB.setCell (p := ⟨B0, 0, none⟩) (by show w.heap.size ≤ B0; have := HB.out; omega) _).trans (belowK_b (w := w) (Nat.le_refl _) _ D _ _ (by have := HZ.out; have := HB.out; omega) hK2 rfl rfl)⟩
        simp [results, Tryz.f18, go_sem, hc5]
      case stop =>
        rintro D c pre W hD hpre ⟨rfl, ⟨x, hx, hbad⟩, b1, hB⟩ hK
        clear hz3 hB0 cN hd h1 hq hb3 r3 c3 s3 d3 v3
        gi_wp2
        refine ⟨by simp, .inl ⟨_, _, rfl, run_takeDeferred hK, ?_⟩⟩
        have hc5 := cell_kept b1.cell (grownBy_putObj' _ D (.deferred none)) (fun r e => by cases e; exact ⟨_, hK, rfl⟩)
        have hlen : labelsL (ls s) = 0 := labels_bad (hpre.subset (List.mem_map.2 ⟨x, hx, rfl⟩)) hbad
        refine ⟨.int .i64 0, ?_, by rw [hlen]; rfl, hB.trans (belowK_b (w := w) (Nat.le_refl _) W D _ _ (by have := HZ.out; have := HB.out; omega) hK rfl rfl)⟩
        simp [results, Tryz.f18, go_sem, hc5]

theorem vn_any (hL : HoLab 18) : HoVn 16 := by
  intro s w hs
  have c := hL s w hs
  have e := labels_pos (ls s)
  obtain ⟨q, hq⟩ : ∃ q, q = vnL (ls s) := ⟨_, rfl⟩
  obtain ⟨n, hn⟩ : ∃ n, n = labelsL (ls s) := ⟨_, rfl⟩
  rw [← hq] at e ⊢
  rw [← hn] at c e
  clear hq hn
  go_enter Tryz.func16, Tryz.ntmps16
  go_wp2_with fail
  refine c.mono ?_
  rintro r w1 ⟨rfl, hb⟩
  go_wp2
  go_ret
  exact ⟨ret_bool (by rw [← e]; exact decide_eq_decide.2 (by omega)), hb⟩

theorem hsuf (s : ByteArray) (p : List UInt8) : Lib.hasSuffix s.data.toList p = p.isSuffixOf (ls s) := rfl

set_option maxHeartbeats 1000000 in
theorem cov_any (hV : HoVn 16) : HoCov 23 := by
  intro s t w hs ht
  have c1 := hV s w hs
  have c2 := fun W => hV t W ht
  have c3 : ∀ W, Calls Tryz.prog 60 #[.string t, .string ((⟨#[46]⟩ : ByteArray) ++ s)] W fun e w' => e = .returned (.bool ((46 :: ls s).isSuffixOf (ls t))) ∧ w' = W := by
    intro W
    have c := Any.strings_HasSuffix Tryz.lays100 t ((⟨#[46]⟩ : ByteArray) ++ s) W (by omega)
    have e : ((⟨#[46]⟩ : ByteArray) ++ s).data.toList = 46 :: ls s := by
      have := ls_append ⟨#[46]⟩ s
      exact this
    rw [hsuf, e] at c
    exact c
  unfold coversL
  have e1 : (s.toList == t.toList) = decide (ls s = ls t) := by rw [toList_ls, toList_ls]; exact Bool.eq_iff_iff.2 (by simp)
  obtain ⟨q1, h1⟩ : ∃ q, q = vnL (ls s) := ⟨_, rfl⟩
  obtain ⟨q2, h2⟩ : ∃ q, q = vnL (ls t) := ⟨_, rfl⟩
  obtain ⟨q3, h3⟩ : ∃ q, q = decide (ls s = ls t) := ⟨_, rfl⟩
  obtain ⟨q4, h4⟩ : ∃ q, q = (46 :: ls s).isSuffixOf (ls t) := ⟨_, rfl⟩
  rw [← h1] at c1 ⊢
  simp only [← h2] at c2 ⊢
  rw [← h3] at e1 ⊢
  simp only [← h4] at c3 ⊢
  clear h1 h2 h3 h4
  go_enter Tryz.func23, Tryz.ntmps23
  go_wp2_with fail
  refine c1.mono ?_
  rintro r w1 ⟨rfl, hb⟩
  cases q1 with
  | false =>
    go_wp2
    go_ret
    exact ⟨rfl, hb⟩
  | true =>
    go_wp2_with fail
    refine (c2 _).mono ?_
    rintro r w2 ⟨rfl, hb2⟩
    replace hb2 := hb.trans (hb2.mono hb.size)
    cases q2 with
    | false =>
      go_wp2
      go_ret
      exact ⟨rfl, hb2⟩
    | true =>
      cases q3 with
      | true =>
        go_wp2
        go_ret
        exact ⟨rfl, hb2⟩
      | false =>
        go_wp2_with fail
        refine (c3 _).mono ?_
        rintro r w3 ⟨rfl, rfl⟩
        go_wp2
        go_ret
        exact ⟨by simp, hb2⟩
end

section
open Go.RowKit

def hV (l : List UInt8) : Int := ((hexL l).getD 0 : Nat)
def hK (l : List UInt8) : Bool := (hexL l).isSome
theorem hex_yes {l : List UInt8} (h1 : 1 ≤ l.length) (h2 : l.length ≤ 4) (h : l.all (fun c => decide (digV c < 16)) = true) : hV l = (valB 16 0 l : Nat) ∧ hK l = true := by
  unfold hV hK hexL
  rw [if_pos ⟨⟨h1, h2⟩, h⟩]
  exact ⟨rfl, rfl⟩
theorem hex_no {l : List UInt8} (h : ¬ ((1 ≤ l.length ∧ l.length ≤ 4) ∧ l.all (fun c => decide (digV c < 16)) = true)) : hV l = 0 ∧ hK l = false := by
  unfold hV hK hexL
  rw [if_neg h]
  exact ⟨rfl, rfl⟩
theorem hexval_take (t : ByteArray) (k : Nat) (h : k < t.size) : valB 16 0 ((ls t).take (k + 1)) = valB 16 0 ((ls t).take k) * 16 + digV t[k] := by
  rw [take_ls_succ t k h, valB_append]; rfl
theorem hex_all_no (t : ByteArray) (k : Nat) (h : k < t.size) (hp : ¬ digV t[k] < 16) : ¬ (ls t).all (fun c => decide (digV c < 16)) = true := by
  rw [List.all_eq_true]
  intro hall
  have hk : k < (ls t).length := by rw [ls_length]; exact h
  have hm := List.getElem_mem hk
  rw [ls_getE t k h] at hm
  exact hp (of_decide_eq_true (hall _ hm))
theorem hexval_lt (l : List UInt8) : ∀ a k, a < 16 ^ k → l.all (fun c => decide (digV c < 16)) = true → valB 16 a l < 16 ^ (k + l.length) := by
  induction l with
  | nil => intro a k h _; exact h
  | cons c r ih =>
    intro a k h hall
    simp only [List.all_cons, Bool.and_eq_true, decide_eq_true_eq] at hall
    rw [valB]
    have := ih (a * 16 + digV c) (k + 1) (by rw [Nat.pow_succ]; omega) hall.2
    rw [List.length_cons, show k + (r.length + 1) = k + 1 + r.length by omega]
    exact this
theorem hV_range (l : List UInt8) : 0 ≤ hV l ∧ hV l < 65536 := by
  unfold hV hexL
  split
  · rename_i h
    have := hexval_lt l 0 0 (by decide) h.2
    have h4 : (16 : Nat) ^ (0 + l.length) ≤ 16 ^ 4 := Nat.pow_le_pow_right (by decide) (by omega)
    have e : (16 : Nat) ^ 4 = 65536 := by decide
    simp only [Option.getD_some]
    omega
  · exact ⟨by simp, by simp⟩

set_option maxHeartbeats 2000000 in
theorem refHex_any (s : ByteArray) (w : World) (hs : s.size ≤ 1000000000) :
    Calls Tryz.prog 129 #[.string s] w fun e w' => e = .returned (.tuple #[.int .u16 (hV (ls s)), .bool (hK (ls s))]) ∧ w = w' := by
  by_cases h0 : (s.size : Int) < 1
  · have hd : decide ((s.size : Int) < 1) = true := decide_eq_true h0
    have HN := Lib.hid (hex_no (l := ls s) (fun h => by have := h.1.1; rw [ls_length] at this; omega))
    go_enter Tryz.func129, Tryz.ntmps129
    go_wp2
    go_ret2
    exact ⟨by rw [HN.out.1, HN.out.2]; rfl, rfl⟩
  · have hd : decide ((s.size : Int) < 1) = false := decide_eq_false h0
    by_cases h4 : 4 < (s.size : Int)
    · have hd4 : decide (4 < (s.size : Int)) = true := decide_eq_true h4
      have HN := Lib.hid (hex_no (l := ls s) (fun h => by have := h.1.2; rw [ls_length] at this; omega))
      go_enter Tryz.func129, Tryz.ntmps129
      go_wp2
      go_ret2
      exact ⟨by rw [HN.out.1, HN.out.2]; rfl, rfl⟩
    · have hd4 : decide (4 < (s.size : Int)) = false := decide_eq_false h4
      have hs4 : s.size ≤ 4 := by omega
      have HS := Lib.hid (show 1 ≤ s.size by omega)
      clear h0 h4
      go_enter Tryz.func129, Tryz.ntmps129
      go_wp2
      go_loop [4, 5] (fun n i => ∃ (k : Nat) (z : Int), k ≤ s.size ∧ i = .int .i64 k ∧ n = .int .i64 z ∧ 0 ≤ z ∧ z ≤ 65535 ∧ Hid (z = (valB 16 0 ((ls s).take k) : Nat)) ∧ Hid (((ls s).take k).all (fun c => decide (digV c < 16)) = true)) (fun _ i => s.size - (intOf i).toNat)
      case atStart => exact ⟨0, 0, Nat.zero_le _, rfl, rfl, by omega, by omega, Lib.hid rfl, Lib.hid rfl⟩
      case round =>
        obtain ⟨k, z, hk, rfl, rfl, hz0, hz1, HZ, HALL⟩ := hrel
        by_cases hlt : k < s.size
        · have HZ16 : Hid (z ≤ 4095) := by
            show _ ≤ _
            have h1 := hexval_lt ((ls s).take k) 0 0 (by decide) HALL.out
            rw [List.length_take, Nat.min_eq_left (by rw [ls_length]; omega), Nat.zero_add] at h1
            have h2 : (16 : Nat) ^ k ≤ 16 ^ 3 := Nat.pow_le_pow_right (by decide) (by omega)
            have e : (16 : Nat) ^ 3 = 4096 := by decide
            rw [HZ.out]; omega
          have hz3 : z ≤ 4095 := HZ16.out
          have hyl := byte_lt s[k]
          obtain ⟨y, hy⟩ : ∃ y : Int, y = (s[k].toNat : Int) := ⟨_, rfl⟩
          have hy0 : 0 ≤ y := by omega
          have HY := Lib.hid hy
          have hye : (s[k].toNat : Int) = y := hy.symm
          rw [← hy] at hyl
          clear hy
          by_cases h1 : (48 : Int) ≤ y ∧ y ≤ 57
          · obtain ⟨h1, h2⟩ := h1
            have HDV : Hid (y - 48 = (digV s[k] : Nat)) := by show _ = _; have := HY.out; unfold digV; rw [if_pos (by omega)]; omega
            have HZ2 : Hid (z * 16 + (y - 48) = (valB 16 0 ((ls s).take (k + 1)) : Nat)) := by
              show _ = _
              rw [hexval_take s k hlt, HDV.out, HZ.out]; omega
            have HA2 : Hid (((ls s).take (k + 1)).all (fun c => decide (digV c < 16)) = true) := by
              refine Lib.hid (take_all_succ _ s k hlt HALL.out (decide_eq_true ?_))
              have := HDV.out
              omega
            go_wp2
            go_round
            case rel => exact ⟨k + 1, z * 16 + (y - 48), by omega, by go_num, by first | rfl | go_num | (congr 1; omega), by omega, by omega, HZ2, HA2⟩
            case measure => simp [intOf]; omega
          · by_cases h2 : (97 : Int) ≤ y ∧ y ≤ 102
            · obtain ⟨h2, h3⟩ := h2
              have h4 : ¬ y ≤ 57 := by omega
              have h5 : (48 : Int) ≤ y := by omega
              clear h1
              have HDV : Hid (y - 97 + 10 = (digV s[k] : Nat)) := by show _ = _; have := HY.out; unfold digV; rw [if_neg (by omega), if_pos (by omega)]; omega
              have HZ2 : Hid (z * 16 + (y - 97 + 10) = (valB 16 0 ((ls s).take (k + 1)) : Nat)) := by
                show _ = _
                rw [hexval_take s k hlt, HDV.out, HZ.out]; omega
              have HA2 : Hid (((ls s).take (k + 1)).all (fun c => decide (digV c < 16)) = true) := by
                refine Lib.hid (take_all_succ _ s k hlt HALL.out (decide_eq_true ?_))
                have := HDV.out
                omega
              go_wp2
              go_round
              case rel => exact ⟨k + 1, z * 16 + (y - 97 + 10), by omega, by go_num, by first | rfl | go_num | (congr 1; omega), by omega, by omega, HZ2, HA2⟩
              case measure => simp [intOf]; omega
            · by_cases h3 : (65 : Int) ≤ y ∧ y ≤ 70
              · obtain ⟨h3, h4⟩ := h3
                have h5 : ¬ y ≤ 57 := by omega
                have h6 : (48 : Int) ≤ y := by omega
                have h7 : ¬ (97 : Int) ≤ y := by omega
                clear h1 h2
                have HDV : Hid (y - 65 + 10 = (digV s[k] : Nat)) := by show _ = _; have := HY.out; unfold digV; rw [if_neg (by omega), if_neg (by omega), if_pos (by omega)]; omega
                have HZ2 : Hid (z * 16 + (y - 65 + 10) = (valB 16 0 ((ls s).take (k + 1)) : Nat)) := by
                  show _ = _
                  rw [hexval_take s k hlt, HDV.out, HZ.out]; omega
                have HA2 : Hid (((ls s).take (k + 1)).all (fun c => decide (digV c < 16)) = true) := by
                  refine Lib.hid (take_all_succ _ s k hlt HALL.out (decide_eq_true ?_))
                  have := HDV.out
                  omega
                go_wp2
                go_round
                case rel => exact ⟨k + 1, z * 16 + (y - 65 + 10), by omega, by go_num, by first | rfl | go_num | (congr 1; omega), by omega, by omega, HZ2, HA2⟩
                case measure => simp [intOf]; omega
              · have HN := Lib.hid (hex_no (l := ls s) (fun h => hex_all_no s k hlt (by have := HY.out; unfold digV; rw [if_neg (by omega), if_neg (by omega), if_neg (by omega)]; decide) h.2))
                by_cases g1 : (48 : Int) ≤ y
                · have g2 : ¬ y ≤ 57 := fun h => h1 ⟨g1, h⟩
                  by_cases g3 : (65 : Int) ≤ y
                  · have g4 : ¬ y ≤ 70 := fun h => h3 ⟨g3, h⟩
                    by_cases g5 : (97 : Int) ≤ y
                    · have g6 : ¬ y ≤ 102 := fun h => h2 ⟨g5, h⟩
                      clear h1 h2 h3
                      go_wp2
                      go_ret2
                      exact ⟨by rw [HN.out.1, HN.out.2]; rfl, rfl⟩
                    · clear h1 h2 h3
                      have g7 := g5
                      go_wp2
                      go_ret2
                      exact ⟨by rw [HN.out.1, HN.out.2]; rfl, rfl⟩
                  · have g5 : ¬ (97 : Int) ≤ y := by omega
                    clear h1 h2 h3
                    go_wp2
                    go_ret2
                    exact ⟨by rw [HN.out.1, HN.out.2]; rfl, rfl⟩
                · have g3 : ¬ (65 : Int) ≤ y := by omega
                  have g5 : ¬ (97 : Int) ≤ y := by omega
                  clear h1 h2 h3
                  go_wp2
                  go_ret2
                  exact ⟨by rw [HN.out.1, HN.out.2]; rfl, rfl⟩
        · obtain rfl : k = s.size := by omega
          have HN : Hid (hV (ls s) = z ∧ hK (ls s) = true) := by
            have hz := HZ.out
            have ha := HALL.out
            rw [take_ls_all] at hz ha
            have := hex_yes (by rw [ls_length]; exact HS.out) (by rw [ls_length]; exact hs4) ha
            rw [hz]
            exact Lib.hid this
          go_wp2
          go_ret2
          exact ⟨by rw [HN.out.1, HN.out.2]; rfl, rfl⟩

/-- Where the first two colons are, or -1. -/
def dblV (l : List UInt8) : Int := match dblGo l 0 with
  | none => -1
  | some i => (i : Int)
theorem dblGo_step (s : ByteArray) (k : Nat) (h : k + 1 < s.size) : dblGo ((ls s).drop k) k = if s[k] = 58 ∧ s[k + 1] = 58 then some k else dblGo ((ls s).drop (k + 1)) (k + 1) := by
  have e1 : (ls s).drop k = s[k] :: (ls s).drop (k + 1) := by
    rw [List.drop_eq_getElem_cons (by rw [ls_length]; omega), ls_getE s k (by omega)]; rfl
  have e2 : (ls s).drop (k + 1) = s[k + 1] :: (ls s).drop (k + 2) := by
    rw [List.drop_eq_getElem_cons (by rw [ls_length]; omega), ls_getE s (k + 1) (by omega)]; rfl
  rw [e1, e2, dblGo]
theorem dblGo_end (s : ByteArray) (k : Nat) (h : ¬ k + 1 < s.size) : dblGo ((ls s).drop k) k = none := by
  have : ((ls s).drop k).length ≤ 1 := by rw [List.length_drop, ls_length]; omega
  match hx : (ls s).drop k, this with
  | [], _ => rfl
  | [_], _ => rfl

set_option maxHeartbeats 1000000 in
theorem refDouble_any (s : ByteArray) (w : World) (hs : s.size ≤ 1000000000) :
    Calls Tryz.prog 87 #[.string s] w fun e w' => e = .returned (.int .i64 (dblV (ls s))) ∧ w = w' := by
  go_enter Tryz.func87, Tryz.ntmps87
  go_wp2
  go_loop [3] (fun i => ∃ k : Nat, k ≤ s.size ∧ i = .int .i64 k ∧ Hid (dblGo ((ls s).drop k) k = dblGo (ls s) 0)) (fun i => s.size - (intOf i).toNat)
  case atStart => exact ⟨0, Nat.zero_le _, rfl, Lib.hid rfl⟩
  case round =>
    obtain ⟨k, hk, rfl, HD⟩ := hrel
    by_cases hlt : k + 1 < s.size
    · have hlt1 : k < s.size := by omega
      have hd : decide ((k : Int) + 1 < (s.size : Int)) = true := decide_eq_true (by omega)
      have HST := Lib.hid (dblGo_step s k hlt)
      by_cases h1 : s[k] = 58
      · have hq1 : ((s[k].toNat : Int) == 58) = true := by rw [h1]; rfl
        by_cases h2 : s[k + 1] = 58
        · have hq2 : ((s[k + 1].toNat : Int) == 58) = true := by rw [h2]; rfl
          have HR : Hid (dblV (ls s) = (k : Int)) := by
            show _ = _
            unfold dblV
            rw [← HD.out, HST.out, if_pos ⟨h1, h2⟩]
          clear h1 h2
          go_wp2
          go_ret
          exact ⟨ret_int HR.out.symm, rfl⟩
        · have hq2 : ((s[k + 1].toNat : Int) == 58) = false := by
            rw [beq_eq_false_iff_ne]
            exact fun e => h2 (UInt8.toNat_inj.1 (by rw [show (58 : UInt8).toNat = 58 from rfl]; omega))
          have HR : Hid (dblGo ((ls s).drop (k + 1)) (k + 1) = dblGo (ls s) 0) := by
            show _ = _
            rw [← HD.out, HST.out, if_neg (fun h => h2 h.2)]
          clear h1 h2
          go_wp2
          go_round
          case rel => exact ⟨k + 1, by omega, by go_num, HR⟩
          case measure => simp [intOf]; omega
      · have hq1 : ((s[k].toNat : Int) == 58) = false := by
          rw [beq_eq_false_iff_ne]
          exact fun e => h1 (UInt8.toNat_inj.1 (by rw [show (58 : UInt8).toNat = 58 from rfl]; omega))
        have HR : Hid (dblGo ((ls s).drop (k + 1)) (k + 1) = dblGo (ls s) 0) := by
          show _ = _
          rw [← HD.out, HST.out, if_neg (fun h => h1 h.1)]
        clear h1
        go_wp2
        go_round
        case rel => exact ⟨k + 1, by omega, by go_num, HR⟩
        case measure => simp [intOf]; omega
    · have hd : decide ((k : Int) + 1 < (s.size : Int)) = false := decide_eq_false (by omega)
      have HR : Hid (dblV (ls s) = -1) := by
        show _ = _
        unfold dblV
        rw [← HD.out, dblGo_end s k hlt]
      go_wp2
      go_ret
      exact ⟨ret_int HR.out.symm, rfl⟩
end

end Go.Proofs.YtpccpgihldpiiaaGreatDoor
