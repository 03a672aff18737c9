/-
  The walk of StsUnknown: the call returns true.
-/
import Derived.Test.YtpopkeidpohdiaaStN
import Derived.Test.YtpopkeidpohdiaaDiE
import Derived.Deep.QuietTactic
import Derived.BigQuiet
import Derived.Test.YtpopkeidpohdiaaStE
import Derived.Test.YtpopkeidpohdiaaDiI
import Derived.Test.YtpopkeidpohdiaaKeepS
import Derived.Test.YtpopkeidpohdiaaDvO
namespace Go.Proofs.Ytpopkeidpohdiaa
open Go.RowKit

theorem isU_a (n : List UInt8) : ((bs n).toList == [109, 97, 120, 45, 97, 103, 101]) = decide (n = nmA) := by
  rw [← bs_beq n nmA, toList_ls (bs nmA), ls_bs]
  rfl
theorem isU_i (n : List UInt8) : ((bs n).toList == [105, 110, 99, 108, 117, 100, 101, 115, 117, 98, 100, 111, 109, 97, 105, 110, 115]) = decide (n = nmI) := by
  rw [← bs_beq n nmI, toList_ls (bs nmI), ls_bs]
  rfl
/-- A directive that came in. -/
def DvIn (d : Dv) : Prop := (bs d.name).size ≤ maxLen ∧ (bs d.value).size ≤ maxLen
theorem has_one (w : World) (d : Dv) : HasDv (w.alloc (.cells #[.string (bs d.name), .string (bs d.value), .bool d.has] 32)) (w.heap.size + 1) (some ⟨w.heap.size, 0, none⟩) 1 [d] :=
  ⟨rfl, fun _ => ⟨w.heap.size, 0, rfl, by omega, fun k hk => by
    match k, hk with
    | 0, _ => exact ⟨by rw [World.cell?_alloc_at _ _ _ _ rfl]; rfl, by rw [World.cell?_alloc_at _ _ _ _ rfl]; rfl, by rw [World.cell?_alloc_at _ _ _ _ rfl]; rfl⟩⟩⟩
theorem short_two (a b : List UInt8) : shortB 500 [bs a, bs b] = (decide (a.length ≤ 500) && decide (b.length ≤ 500)) := by
  unfold shortB
  simp only [List.all_cons, List.all_nil, Bool.and_true, bs_size]
  congr 1 <;> exact decide_eq_decide.2 (by omega)
theorem short_dv (d : Dv) {q : Bool} (hq : (decide (d.name.length ≤ 500) && decide (d.value.length ≤ 500)) = q) (W : World) :
    Calls Try.prog 10 #[.int .i64 500, .slice (some ⟨W.heap.size, 0, none⟩) 2 2] (W.alloc (.cells #[.string (bs d.name), .string (bs d.value)] 9)) fun e w' => e = .returned (.bool q) ∧ W.alloc (.cells #[.string (bs d.name), .string (bs d.value)] 9) = w' := by
  have h := short_any 500 (some ⟨W.heap.size, 0, none⟩) 2 2 [bs d.name, bs d.value] (W.heap.size + 1) (W.alloc (.cells #[.string (bs d.name), .string (bs d.value)] 9)) (Has.two W (.string (bs d.name)) (.string (bs d.value)) 9) (by decide)
  rwa [short_two, hq] at h
/-- The directive's variable, while the call goes on. -/
structure USt (w W : World) (p : Nat) (d : Dv) : Prop where
  row : RowDv W p (bs d.name) (bs d.value) d.has
  bel : Below w.heap.size w W
section
variable {w W W' : World} {p : Nat} {d : Dv}
theorem USt.call (h : USt w W p d) (hb : Below W.heap.size W W') : USt w W' p d := ⟨Row.below h.row hb (Row.lt h.row), h.bel.trans (hb.mono h.bel.size)⟩
theorem USt.drewN (h : USt w W p d) (m : Nat) : USt w (W.drewN m) p d := ⟨h.row, h.bel.trans ⟨rfl, rfl, rfl, Nat.le_refl _, fun _ _ => rfl⟩⟩
end

open Go.ChangeShapes Go.WideShapes Go.ChangeMaps in
set_option maxRecDepth 100000 in
theorem open_dv1 {H : Type} {enc : TypeId × Value → H} {W : World} {base : Nat} {held : Bool} {v : Value} {d : DataW H} {p : List MemPlace} (hval : Value.okWide Try.prog W .any base 32 v) (h : DataW.Trod enc Try.prog W 0 (fun _ => true) held 32 v d p) :
    ∃ Z : Dv, v = .agg Z.cells ∧ DvIn Z := by
  obtain ⟨cs, rfl, hsz⟩ := Go.WideShapes.okWide_struct Try.underlying32 hval
  have hc3 : Try.prog.cellsOf 32 = 3 := by kernel_rfl
  have hcs : Try.prog.cellsOf 9 = 1 := by kernel_rfl
  have hcb : Try.prog.cellsOf 4 = 1 := by kernel_rfl
  rw [hc3] at hsz
  obtain ⟨l⟩ := cs
  obtain ⟨u0, u1, u2, rfl⟩ : ∃ u0 u1 u2, l = [u0, u1, u2] := by
    match l, hsz with
    | [u0, u1, u2], _ => exact ⟨u0, u1, u2, rfl⟩
  obtain ⟨fuel, hf⟩ := h
  obtain ⟨ys, n', _, _, _, hyl, hg⟩ := DataW.trod_struct Try.underlying32 hf
  obtain ⟨y0, y1, y2, rfl⟩ : ∃ y0 y1 y2, ys = [y0, y1, y2] := by
    match ys, hyl with
    | [y0, y1, y2], _ => exact ⟨y0, y1, y2, rfl⟩
  have s0 : DataW.trod enc Try.prog W 0 (fun _ => true) held n' 9 [u0] = some y0 := by
    have := hg 0 _ rfl
    change DataW.trod _ _ _ _ _ _ _ 9 (List.take (Try.prog.cellsOf 9) _) = _ at this
    rw [hcs] at this
    exact this
  have s1 : DataW.trod enc Try.prog W 0 (fun _ => true) held n' 9 [u1] = some y1 := by
    have := hg 1 _ rfl
    change DataW.trod _ _ _ _ _ _ _ 9 (List.take (Try.prog.cellsOf 9) _) = _ at this
    rw [hcs] at this
    exact this
  have s2 : DataW.trod enc Try.prog W 0 (fun _ => true) held n' 4 [u2] = some y2 := by
    have := hg 2 _ rfl
    change DataW.trod _ _ _ _ _ _ _ 4 (List.take (Try.prog.cellsOf 4) _) = _ at this
    rw [hcb] at this
    exact this
  obtain ⟨x0, e0, _, w0⟩ := DataW.trod_string tyStr s0
  obtain ⟨x1, e1, _, w1⟩ := DataW.trod_string tyStr s1
  obtain ⟨x2, e2, _⟩ := DataW.trod_bool tyBool s2
  simp at e0 e1 e2
  subst e0 e1 e2
  refine ⟨⟨ls x0, ls x1, x2⟩, ?_, ?_⟩
  · unfold Dv.cells dc
    simp only [bs_ls]
  · unfold DvIn
    simp only [bs_ls]
    exact ⟨w0, w1⟩

set_option maxRecDepth 20000 in
set_option maxHeartbeats 8000000 in
theorem walkStU (s : ByteArray) (d : Dv) (w : World) (_hs : s.size ≤ maxLen) (_hd : DvIn d) :
    Calls Try.prog 5 #[.string s, .agg d.cells] w (Yes w) := by
  clear _hs _hd
  rw [Dv.cells_eq]
  by_cases hs : s.size ≤ 2000
  · have n0 : ¬ (2000 : Int) < (s.size : Int) := by omega
    obtain ⟨q, hq⟩ : ∃ q, (decide (d.name.length ≤ 500) && decide (d.value.length ≤ 500)) = q := ⟨_, rfl⟩
    have cs := fun W => short_dv d hq W
    go_enter Try.func5, Try.ntmps5
    go_wp2_with (first | (refine wpList_box_arr _ rfl 3 rfl _ _ rfl _ #[.string (bs d.name), .string (bs d.value), .bool d.has] (by exact rfl) (by exact rfl) ?_
                          intro W3 p3 hp3 hq3 hR3 hG3
                          have c0 := (RowDv.cells hR3).1
                          have c1 := (RowDv.cells hR3).2.1
                          have hU3 : USt w W3 p3 d := ⟨hR3, below_row0 (Below.refl _ _) hG3 (Nat.le_refl _)⟩
                          clear hR3 hG3 hq3 hp3))
    refine (cs _).mono ?_
    rintro e w4 ⟨rfl, h4⟩
    have hU : USt w w4 p3 d := hU3.call (by rw [← h4]; exact (Below.refl _ _).alloc (Nat.le_refl _) _)
    clear h4 hU3 cs c0 c1
    have hb := hU.bel
    cases q with
    | false =>
      clear hq
      go_wp2_with fail
      refine (awake19_any _).mono ?_
      rintro e wz ⟨rfl, hz2⟩
      have hz := hb.trans (hz2.mono hb.size)
      go_wp2
      go_ret
      exact ⟨rfl, hz⟩
    | true =>
      rw [Bool.and_eq_true, decide_eq_true_eq, decide_eq_true_eq] at hq
      have k0 := (RowDv.cells hU.row).1
      have q1 := isU_a d.name
      have q2 := isU_i d.name
      by_cases hnA : d.name = nmA
      · rw [decide_eq_true hnA] at q1
        clear hnA q2 hq
        go_wp2_with fail
        refine (awake19_any _).mono ?_
        rintro e wz ⟨rfl, hz2⟩
        have hz := hb.trans (hz2.mono hb.size)
        go_wp2
        go_ret
        exact ⟨rfl, hz⟩
      · rw [decide_eq_false hnA] at q1
        by_cases hnI : d.name = nmI
        · rw [decide_eq_true hnI] at q2
          clear hnA hnI hq
          go_wp2_with fail
          refine (awake19_any _).mono ?_
          rintro e wz ⟨rfl, hz2⟩
          have hz := hb.trans (hz2.mono hb.size)
          go_wp2
          go_ret
          exact ⟨rfl, hz⟩
        · rw [decide_eq_false hnI] at q2
          have HNA := Lib.hid hnA
          have HNI := Lib.hid hnI
          have HU := Lib.hid hU
          have hSm : SmDv [d] := by intro x hx; simp at hx; subst hx; omega
          have htl := fmt_short d hq.1 hq.2
          have cF := fun W : World => fmt_at (refFormat_any18 (some ⟨W.heap.size, 0, none⟩) 1 1 (W.heap.size + 1) [d] (W.alloc (.cells #[.string (bs d.name), .string (bs d.value), .bool d.has] 32)) (has_one W d) hSm (by decide) (by decide) (by simp)) (show fmtR [d] = ((fmtR [d]).1, (fmtR [d]).2) from rfl)
          have HF := Lib.hid (show fmtR [d] = ((fmtR [d]).1, (fmtR [d]).2) from rfl)
          generalize (fmtR [d]).1 = t at *
          generalize (fmtR [d]).2 = fr at *
          have cD := fun W => refDirParse_any s (by omega) W
          have hlen := dirL_len (ls s)
          have HD := Lib.hid (show dirL (ls s) = ((dirL (ls s)).1, (dirL (ls s)).2) from rfl)
          generalize (dirL (ls s)).1 = l at *
          generalize (dirL (ls s)).2 = r at *
          clear hnA hnI hq hSm hU
          go_wp2_with (first | (refine wpList_load_dv (by rfl) _ rfl p3 (by exact rfl) _ _ _ HU.out.row ?_))
          refine (cF _).mono ?_
          rintro e w6 ⟨rfl, hb6⟩
          have hU6 := HU.out.call ((Below.refl _ _).alloc (Nat.le_refl _) _ |>.trans (hb6.mono (by simp)))
          clear hb6 hb k0 HU
          go_wp2_with fail
          refine (cD _).mono ?_
          rintro e w7 ⟨A, c, rfl, hc, _, hh, hb7⟩
          have hU := hU6.call hb7
          have hb := hU.bel
          clear hb7 hU6
          by_cases hf : fr = 0
          · subst hf
            by_cases hr : r = 0
            · subst hr
              by_cases h32 : l.length = 32
              · have e1 : ((l.length : Int) == 32) = true := by rw [h32]; rfl
                clear hh
                go_wp2_with fail
                refine (awake19_any _).mono ?_
                rintro e wz ⟨rfl, hz2⟩
                have hz := hb.trans (hz2.mono hb.size)
                go_wp2
                go_ret
                exact ⟨rfl, hz⟩
              · have e1 : ((l.length : Int) == 32) = false := by simp; omega
                have HP := Lib.hid (fun hn => unk_both HD.out HF.out (by omega) (by rw [ls_length]; omega) htl HNA.out HNI.out hn)
                have HS0 := Lib.hid (stsP_list HD.out)
                have HA := Lib.hid hh
                have HU := Lib.hid hU
                obtain ⟨n, hn⟩ : ∃ n, l.length = n := ⟨_, rfl⟩
                rw [hn] at hlen e1 HA hc
                have HL := Lib.hid hn
                rw [hn]
                clear hn h32 hh hU hb HF HD HNA HNI cF cD q1 q2
                go_wp2
                go_loopw [9] (fun i wr => ∃ k : Nat, k ≤ n ∧ i = .int .i64 k ∧ Hid (USt w wr p3 d) ∧ Hid (Below w7.heap.size w7 wr) ∧ Hid (∀ e ∈ l.take k, e.name ≠ d.name)) (fun i _ => n - (intOf i).toNat)
                case atStart => exact ⟨0, Nat.zero_le _, rfl, HU, Lib.hid (Below.refl _ _), Lib.hid (by intro e he; simp at he)⟩
                case round =>
                  clear HU
                  obtain ⟨k, hk, rfl, HU, HW, HN⟩ := hrel
                  have hkb : (k : Int) ≤ 1000000 := by omega
                  have i0 : (0 : Int) ≤ (k : Int) := by omega
                  have k0 := (RowDv.cells HU.out.row).1
                  by_cases hlt : k < n
                  · have i1 : (k : Int) < (n : Int) := by omega
                    have hkl : k < l.length := by rw [HL.out]; exact hlt
                    obtain ⟨b, o, rfl, hbb, g0, _, _⟩ := (HA.out.below' HW.out (Nat.le_refl _)).at_ hlt
                    have hq := bs_beq l[k].name d.name
                    by_cases he : l[k].name = d.name
                    · rw [decide_eq_true he] at hq
                      clear he
                      generalize bs l[k].name = N1 at *
                      clear hkl HN HP
                      go_wp2
                      go_quiet (fail)
                      have hb := (HU.out.drewN nq).bel
                      go_wp2_with fail
                      refine (awake19_any _).mono ?_
                      rintro e wz ⟨rfl, hz2⟩
                      have hz := hb.trans (hz2.mono hb.size)
                      go_wp2
                      go_ret
                      exact ⟨rfl, hz⟩
                    · rw [decide_eq_false he] at hq
                      have HN2 : Hid (∀ e ∈ l.take (k + 1), e.name ≠ d.name) := by
                        show _
                        intro e hm
                        rw [List.take_succ_eq_append_getElem hkl, List.mem_append, List.mem_singleton] at hm
                        rcases hm with hm | rfl
                        · exact HN.out e hm
                        · exact he
                      clear he HN
                      generalize bs l[k].name = N1 at *
                      clear hkl HP
                      go_wp2
                      go_quiet (fail)
                      go_wp2
                      go_roundw
                      case rel => exact ⟨k + 1, by omega, by go_num, Lib.hid (HU.out.drewN _), Lib.hid (HW.out.trans ⟨rfl, rfl, rfl, Nat.le_refl _, fun _ _ => rfl⟩), HN2⟩
                      case measure => simp [intOf]; omega
                  · have hkn : (k : Int) = (n : Int) := by omega
                    have hN := HN.out
                    rw [List.take_of_length_le (by rw [HL.out]; omega)] at hN
                    obtain ⟨hp1, hp2⟩ := HP.out hN
                    have hp0 := HS0.out
                    obtain ⟨⟨⟨a, sb⟩, rr⟩, hR⟩ : ∃ R, R = polL l := ⟨_, rfl⟩
                    rw [← hR] at hp0 hp1 hp2
                    have HB := Lib.hid HU.out.bel
                    clear hN HN HP HS0 HU HW HA HL hR k0
                    rw [hkn]
                    clear hkn hlt i0 hkb hk
                    clear k
                    have htz : (bs t).size ≤ 1600 := by rw [bs_size]; exact htl
                    have z1 : (⟨#[59]⟩ : ByteArray).size = 1 := rfl
                    have y1 : s.size ≤ 1000000 := by omega
                    have y2 : (s ++ ⟨#[59]⟩ ++ bs t).size ≤ 1000000 := by rw [ByteArray.size_append, ByteArray.size_append]; omega
                    have y3 : (bs t ++ ⟨#[59]⟩ ++ s).size ≤ 1000000 := by rw [ByteArray.size_append, ByteArray.size_append]; omega
                    rw [← cat1] at hp1
                    rw [← cat2] at hp2
                    have c1 := stsParse_known _ y1 hp0
                    have c2 := stsParse_known _ y2 hp1
                    have c3 := stsParse_known _ y3 hp2
                    clear y1 y2 y3
                    have s1 : ¬ (9223372036854775807 < s.size + (⟨#[59]⟩ : ByteArray).size) := by omega
                    have s2 : ¬ (9223372036854775807 < (s ++ (⟨#[59]⟩ : ByteArray)).size + (bs t).size) := by rw [ByteArray.size_append]; omega
                    have s3 : ¬ (9223372036854775807 < (bs t).size + (⟨#[59]⟩ : ByteArray).size) := by omega
                    have s4 : ¬ (9223372036854775807 < (bs t ++ (⟨#[59]⟩ : ByteArray)).size + s.size) := by rw [ByteArray.size_append]; omega
                    have heq : ∀ W, (binOp .eql 24 (.agg #[.int .i64 a, .bool sb]) (.agg #[.int .i64 a, .bool sb])).run Try.prog W = .ok (.bool true) W := fun W => by rw [eq_pv]; simp
                    generalize bs t = T at *
                    clear hp0 hp1 hp2 htl htz z1
                    go_wp2_with fail
                    refine (c1 _).mono ?_
                    rintro e x1 ⟨rfl, hb⟩
                    replace hb := HB.out.trans (hb.mono HB.out.size)
                    go_wp2_with (first
                      | (refine wpList_alloc_arr _ rfl 10 rfl _ rfl #[.int .i64 0, .bool false] zeroPv ?_; intro Y1 v1 hv1 hy1 hR1 hG1)
                      | (refine wpList_store_pv rfl rfl _ _ rfl v1 (by exact rfl) a sb (by exact rfl) _ _ hR1 ?_; intro Y2 hr1 hG2))
                    have hE1 := RSt19.boxed hb hv1 hG1 hr1 hG2
                    clear hb hv1 hy1 hR1 hG1 hr1 hG2
                    refine (c2 _).mono ?_
                    rintro e x2 ⟨rfl, hb⟩
                    have hE1 := hE1.call hb
                    clear hb
                    go_wp2_with (first
                      | (refine wpList_alloc_arr _ rfl 12 rfl _ rfl #[.int .i64 0, .bool false] zeroPv ?_; intro Y3 v2 hv2 hy2 hR2 hG3)
                      | (refine wpList_store_pv rfl rfl _ _ rfl v2 (by exact rfl) a sb (by exact rfl) _ _ hR2 ?_; intro Y4 hr2 hG4))
                    have hE2 := RSt19.boxed hE1.bel hv2 hG3 hr2 hG4
                    have hE1 := hE1.pass hv2 hG3 hG4
                    clear hv2 hy2 hR2 hG3 hr2 hG4
                    refine (c3 _).mono ?_
                    rintro e x3 ⟨rfl, hb⟩
                    have hE1 := hE1.call hb
                    have hE2 := hE2.call hb
                    clear hb
                    go_wp2_with (first
                      | (refine wpList_alloc_arr _ rfl 14 rfl _ rfl #[.int .i64 0, .bool false] zeroPv ?_; intro Y5 v3 hv3 hy3 hR3 hG5)
                      | (refine wpList_store_pv rfl rfl _ _ rfl v3 (by exact rfl) a sb (by exact rfl) _ _ hR3 ?_
                         intro Y6 hr3 hG6
                         have hE7 := hE1.pass hv3 hG5 hG6
                         have hE8 := hE2.pass hv3 hG5 hG6)
                      | (refine wpList_load_pv (by rfl) _ rfl v1 (by exact rfl) _ _ hE7.row ?_)
                      | (refine wpList_load_pv (by rfl) _ rfl v2 (by exact rfl) _ _ hE8.row ?_)
                      | (refine wpList_load_pv (by rfl) _ rfl v3 (by exact rfl) _ _ hr3 ?_))
                    have hb := hE7.bel
                    clear hE7 hE8 hr3 hG5 hG6 hR3 hE1 hE2
                    refine (awake19_any _).mono ?_
                    rintro e wz ⟨rfl, hz2⟩
                    have hz := hb.trans (hz2.mono hb.size)
                    go_wp2
                    go_ret
                    exact ⟨rfl, hz⟩
            · have e1 : (r == 0) = false := by simp [hr]
              have e2 : (r != 0) = true := by simp [hr]
              clear hh
              go_wp2_with fail
              refine (awake19_any _).mono ?_
              rintro e wz ⟨rfl, hz2⟩
              have hz := hb.trans (hz2.mono hb.size)
              go_wp2
              go_ret
              exact ⟨rfl, hz⟩
          · have e1 : (fr == 0) = false := by simp [hf]
            have e2 : (fr != 0) = true := by simp [hf]
            clear hh
            go_wp2_with fail
            refine (awake19_any _).mono ?_
            rintro e wz ⟨rfl, hz2⟩
            have hz := hb.trans (hz2.mono hb.size)
            go_wp2
            go_ret
            exact ⟨rfl, hz⟩
  · have n0 : (2000 : Int) < (s.size : Int) := by omega
    clear hs
    go_enter Try.func5, Try.ntmps5
    go_wp2_with (first | (refine wpList_box_arr _ rfl 3 rfl _ _ rfl _ #[.string (bs d.name), .string (bs d.value), .bool d.has] (by exact rfl) (by exact rfl) ?_
                          intro W3 p3 hp3 hq3 hR3 hG3
                          have c0 := (RowDv.cells hR3).1
                          have c1 := (RowDv.cells hR3).2.1
                          have hU3 : USt w W3 p3 d := ⟨hR3, below_row0 (Below.refl _ _) hG3 (Nat.le_refl _)⟩
                          clear hR3 hG3 hq3 hp3))
    have hb := hU3.bel
    clear hU3 c0 c1
    refine (awake19_any _).mono ?_
    rintro e wz ⟨rfl, hz2⟩
    have hz := hb.trans (hz2.mono hb.size)
    go_wp2
    go_ret
    exact ⟨rfl, hz⟩

end Go.Proofs.Ytpopkeidpohdiaa
