/-
The opener of layer 14: a host that came in (written by tools/gen-HoA.py).
The walk of HostRoundTrip: it returns true (written by tools/gen-HoR.py).
All that the statement HostRoundTrip needs.
-/
import Derived.Test.YtdplgbaneggenaaGreatDoorB13
import Derived.OpenShut
import Derived.ChangeSame
import Derived.Test.YtdplgbaneggenaaGreatDoorB21
import Derived.Test.YtdplgbaneggenaaGreatDoorB15
import Derived.Test.YtdplgbaneggenaaGreatDoorB17
import Derived.Test.YtdplgbaneggenaaGreatDoorB35
namespace Go.Proofs.YtdplgbaneggenaaGreatDoor
section
open Go.RowKit

theorem tyHoInt : Tryz.prog.underlying 3 = some (.int .i64) := by kernel_rfl
theorem tyHoU16 : Tryz.prog.underlying 24 = some (.int .u16) := by kernel_rfl
theorem tyHoU32 : Tryz.prog.underlying 23 = some (.int .u32) := by kernel_rfl
theorem tyHoStr : Tryz.prog.underlying 9 = some .string := by kernel_rfl
theorem wfHo_u16 {v : Int} (h : (Lit.int .u16 v).wf = true) : ∃ n : Nat, v = (n : Int) ∧ n < 65536 := by
  have h1 : IntKind.u16.min = 0 := rfl
  have h2 : IntKind.u16.max = 65535 := rfl
  simp [Lit.wf, h1, h2] at h
  exact ⟨v.toNat, by omega, by omega⟩
theorem wfHo_u32 {v : Int} (h : (Lit.int .u32 v).wf = true) : ∃ n : Nat, v = (n : Int) ∧ n < 4294967296 := by
  have h1 : IntKind.u32.min = 0 := rfl
  have h2 : IntKind.u32.max = 4294967295 := rfl
  simp [Lit.wf, h1, h2] at h
  exact ⟨v.toNat, by omega, by omega⟩
open Go.ChangeShapes Go.WideShapes in
set_option maxRecDepth 100000 in
theorem trod_a8 {H : Type} {enc : TypeId × Value → H} {W : World} {held : Bool} {fuel : Nat} {c0 c1 c2 c3 c4 c5 c6 c7 : Value} {x : DataW H × List MemPlace} (hf : DataW.trod enc Tryz.prog W 0 (fun _ => true) held fuel 25 [c0, c1, c2, c3, c4, c5, c6, c7] = some x) :
    ∃ n0 n1 n2 n3 n4 n5 n6 n7 : Nat, c0 = .int .u16 n0 ∧ c1 = .int .u16 n1 ∧ c2 = .int .u16 n2 ∧ c3 = .int .u16 n3 ∧ c4 = .int .u16 n4 ∧ c5 = .int .u16 n5 ∧ c6 = .int .u16 n6 ∧ c7 = .int .u16 n7 ∧ G16 [n0, n1, n2, n3, n4, n5, n6, n7] := by
  have hc1 : Tryz.prog.cellsOf 24 = 1 := by kernel_rfl
  match fuel with
  | 0 => simp [DataW.trod] at hf
  | n + 1 =>
    unfold DataW.trod at hf
    rw [Tryz.underlying25] at hf
    simp [show List.range 8 = [0, 1, 2, 3, 4, 5, 6, 7] from rfl, hc1] at hf
    cases h0 : DataW.trod enc Tryz.prog W 0 (fun _ => true) held n 24 [c0] with
    | none => simp [h0] at hf
    | some y0 =>
      cases h1 : DataW.trod enc Tryz.prog W 0 (fun _ => true) held n 24 [c1] with
      | none => simp [h0, h1] at hf
      | some y1 =>
        cases h2 : DataW.trod enc Tryz.prog W 0 (fun _ => true) held n 24 [c2] with
        | none => simp [h0, h1, h2] at hf
        | some y2 =>
          cases h3 : DataW.trod enc Tryz.prog W 0 (fun _ => true) held n 24 [c3] with
          | none => simp [h0, h1, h2, h3] at hf
          | some y3 =>
            cases h4 : DataW.trod enc Tryz.prog W 0 (fun _ => true) held n 24 [c4] with
            | none => simp [h0, h1, h2, h3, h4] at hf
            | some y4 =>
              cases h5 : DataW.trod enc Tryz.prog W 0 (fun _ => true) held n 24 [c5] with
              | none => simp [h0, h1, h2, h3, h4, h5] at hf
              | some y5 =>
                cases h6 : DataW.trod enc Tryz.prog W 0 (fun _ => true) held n 24 [c6] with
                | none => simp [h0, h1, h2, h3, h4, h5, h6] at hf
                | some y6 =>
                  cases h7 : DataW.trod enc Tryz.prog W 0 (fun _ => true) held n 24 [c7] with
                  | none => simp [h0, h1, h2, h3, h4, h5, h6, h7] at hf
                  | some y7 =>
                    obtain ⟨x0, e0, _, w0⟩ := DataW.trod_int tyHoU16 h0
                    obtain ⟨x1, e1, _, w1⟩ := DataW.trod_int tyHoU16 h1
                    obtain ⟨x2, e2, _, w2⟩ := DataW.trod_int tyHoU16 h2
                    obtain ⟨x3, e3, _, w3⟩ := DataW.trod_int tyHoU16 h3
                    obtain ⟨x4, e4, _, w4⟩ := DataW.trod_int tyHoU16 h4
                    obtain ⟨x5, e5, _, w5⟩ := DataW.trod_int tyHoU16 h5
                    obtain ⟨x6, e6, _, w6⟩ := DataW.trod_int tyHoU16 h6
                    obtain ⟨x7, e7, _, w7⟩ := DataW.trod_int tyHoU16 h7
                    simp at e0 e1 e2 e3 e4 e5 e6 e7
                    subst e0 e1 e2 e3 e4 e5 e6 e7
                    obtain ⟨n0, rfl, b0⟩ := wfHo_u16 w0
                    obtain ⟨n1, rfl, b1⟩ := wfHo_u16 w1
                    obtain ⟨n2, rfl, b2⟩ := wfHo_u16 w2
                    obtain ⟨n3, rfl, b3⟩ := wfHo_u16 w3
                    obtain ⟨n4, rfl, b4⟩ := wfHo_u16 w4
                    obtain ⟨n5, rfl, b5⟩ := wfHo_u16 w5
                    obtain ⟨n6, rfl, b6⟩ := wfHo_u16 w6
                    obtain ⟨n7, rfl, b7⟩ := wfHo_u16 w7
                    refine ⟨n0, n1, n2, n3, n4, n5, n6, n7, rfl, rfl, rfl, rfl, rfl, rfl, rfl, rfl, ?_⟩
                    intro x hx
                    simp only [List.mem_cons, List.not_mem_nil, or_false] at hx
                    rcases hx with rfl | rfl | rfl | rfl | rfl | rfl | rfl | rfl <;> assumption
open Go.ChangeShapes Go.WideShapes Go.ChangeMaps in
set_option maxRecDepth 100000 in
/-- A host that came in. -/
theorem open_host {H : Type} {enc : TypeId × Value → H} {W : World} {base : Nat} {held : Bool} {v : Value} {d : DataW H} {p : List MemPlace} (hval : Value.okWide Tryz.prog W .any base 27 v) (h : DataW.Trod enc Tryz.prog W 0 (fun _ => true) held 27 v d p) :
    ∃ Z : Hv, v = Z.val ∧ Z.Wf ∧ Z.name.length ≤ maxLen := by
  obtain ⟨cs, rfl, hsz⟩ := Go.WideShapes.okWide_struct Tryz.underlying27 hval
  have hc11 : Tryz.prog.cellsOf 27 = 11 := by kernel_rfl
  have hci : Tryz.prog.cellsOf 3 = 1 := by kernel_rfl
  have hcs : Tryz.prog.cellsOf 9 = 1 := by kernel_rfl
  have hc32 : Tryz.prog.cellsOf 23 = 1 := by kernel_rfl
  have hc8 : Tryz.prog.cellsOf 25 = 8 := by kernel_rfl
  rw [hc11] at hsz
  obtain ⟨l⟩ := cs
  obtain ⟨c0, c1, c2, c3, c4, c5, c6, c7, c8, c9, c10, rfl⟩ : ∃ c0 c1 c2 c3 c4 c5 c6 c7 c8 c9 c10, l = [c0, c1, c2, c3, c4, c5, c6, c7, c8, c9, c10] := by
    match l, hsz with
    | [c0, c1, c2, c3, c4, c5, c6, c7, c8, c9, c10], _ => exact ⟨c0, c1, c2, c3, c4, c5, c6, c7, c8, c9, c10, rfl⟩
  obtain ⟨fuel, hf⟩ := h
  obtain ⟨ys, n', _, _, _, hyl, hg⟩ := DataW.trod_struct Tryz.underlying27 hf
  obtain ⟨y0, y1, y2, y3, rfl⟩ : ∃ y0 y1 y2 y3, ys = [y0, y1, y2, y3] := by
    match ys, hyl with
    | [y0, y1, y2, y3], _ => exact ⟨y0, y1, y2, y3, rfl⟩
  have s0 : DataW.trod enc Tryz.prog W 0 (fun _ => true) held n' 3 [c0] = some y0 := by
    have := hg 0 _ rfl
    change DataW.trod _ _ _ _ _ _ _ 3 (List.take (Tryz.prog.cellsOf 3) _) = _ at this
    rw [hci] at this
    exact this
  have s1 : DataW.trod enc Tryz.prog W 0 (fun _ => true) held n' 9 [c1] = some y1 := by
    have := hg 1 _ rfl
    change DataW.trod _ _ _ _ _ _ _ 9 (List.take (Tryz.prog.cellsOf 9) _) = _ at this
    rw [hcs] at this
    exact this
  have s2 : DataW.trod enc Tryz.prog W 0 (fun _ => true) held n' 23 [c2] = some y2 := by
    have := hg 2 _ rfl
    change DataW.trod _ _ _ _ _ _ _ 23 (List.take (Tryz.prog.cellsOf 23) _) = _ at this
    rw [hc32] at this
    exact this
  have s3 : DataW.trod enc Tryz.prog W 0 (fun _ => true) held n' 25 [c3, c4, c5, c6, c7, c8, c9, c10] = some y3 := by
    have := hg 3 _ rfl
    change DataW.trod _ _ _ _ _ _ _ 25 (List.take (Tryz.prog.cellsOf 25) _) = _ at this
    rw [hc8] at this
    exact this
  obtain ⟨x0, e0, _, _⟩ := DataW.trod_int tyHoInt s0
  obtain ⟨x1, e1, _, w1⟩ := DataW.trod_string tyHoStr s1
  obtain ⟨x2, e2, _, w2⟩ := DataW.trod_int tyHoU32 s2
  obtain ⟨n0, n1, n2, n3, n4, n5, n6, n7, rfl, rfl, rfl, rfl, rfl, rfl, rfl, rfl, hG⟩ := trod_a8 s3
  simp at e0 e1 e2
  subst e0 e1 e2
  obtain ⟨m2, rfl, b2⟩ := wfHo_u32 w2
  refine ⟨⟨x0, ls x1, m2, [n0, n1, n2, n3, n4, n5, n6, n7]⟩, ?_, ⟨b2, rfl, hG⟩, by rw [ls_length]; exact w1⟩
  unfold Hv.val Hv.cells
  rw [bs_ls]
  rfl
end

section
open Go.RowKit Go.Shelf

theorem fmtT_len {h : Hv} (hw : h.Wf) : (fmtT h).length ≤ h.name.length + 84 := by
  unfold fmtT
  split
  · omega
  · split
    · have := fmtI_len hw.1
      omega
    · have := fmt6_len hw.2.2
      simp
      omega
theorem fmtH_len {h : Hv} (hw : h.Wf) : (fmtH h).length ≤ h.name.length + 84 := by
  unfold fmtH
  split
  · exact fmtT_len hw
  · simp
theorem parseH_name (raw : List UInt8) : (parseH raw).2.name.length ≤ 253 := by
  rcases parse_valid raw with ⟨_, ⟨_, hv⟩ | ⟨_, h0⟩⟩
  · rcases valid_kinds hv with ⟨hn, _⟩ | e | e
    · exact hn.len
    · rw [e]; simp [hv4]
    · rw [e]; simp [hv6]
  · rw [h0]; simp [hv0]
theorem parse_fmtH {h : Hv} (hw : h.Wf) (hv : validH h = true) : parseH (fmtH h) = (0, h) := parse_fmt hw hv (by have := fmt6_len hw.2.2; omega)
theorem wpList_load_hostw {ops : Array Oper} {rest : List Oper} {o : Oper} {a : Act} {w : World} {Q : Exit → Act → World → Prop} (hw : Region.wanted o (yielded ops a.tmps) = true) (x : Operand) (ho : o.op = .load 27 x)
    (g : Nat) (hx : a.eval x = .pointer (some ⟨g, 0, none⟩)) (c : Array Value) (h0 : RowH w g c) (hc : c.size = 11)
    (h : wpList Tryz.prog ops Q rest (a.put o.dst (.agg c)) w) : wpList Tryz.prog ops Q (o :: rest) a w := by
  have hl := load_host h0 hc
  unfold wpList
  rw [if_pos hw]
  left
  unfold Oper.wp
  simp only [execOp, ho, hx, Instr.loadAt, Instr.sureAddr, Sem.run_bind, Sem.run_pure, Result.andThen, hl]
  exact h
set_option maxRecDepth 20000 in
theorem same_host {h : Hv} (hw : h.Wf) (W : World) : (binOp .eql 27 (.agg h.cells) (.agg h.cells)).run Tryz.prog W = .ok (.bool true) W := by
  have := eq_host h.kind h.kind (bs h.name) (bs h.name) (h.v4 : Nat) (h.v4 : Nat) h.v6 h.v6 hw.2.1 hw.2.1 W
  rw [decide_eq_true ⟨rfl, rfl, rfl, rfl⟩] at this
  exact this
set_option maxRecDepth 20000 in
theorem neq_host {h : Hv} (hw : h.Wf) (W : World) : (binOp .neq 27 (.agg h.cells) (.agg h.cells)).run Tryz.prog W = .ok (.bool false) W := by
  obtain ⟨k, n, v, g⟩ := h
  have hg : g.length = 8 := hw.2.1
  have h8 := eqIn8 g g hg hg W
  rw [decide_eq_true rfl] at h8
  obtain ⟨a0, a1, a2, a3, a4, a5, a6, a7, rfl⟩ := list8e g hg
  rw [show av [a0, a1, a2, a3, a4, a5, a6, a7] = #[.int .u16 (a0 : Int), .int .u16 (a1 : Int), .int .u16 (a2 : Int), .int .u16 (a3 : Int), .int .u16 (a4 : Int), .int .u16 (a5 : Int), .int .u16 (a6 : Int), .int .u16 (a7 : Int)] from rfl] at h8
  rw [show (Hv.mk k n v [a0, a1, a2, a3, a4, a5, a6, a7]).cells = #[.int .i64 k, .string (bs n), .int .u32 (v : Nat), .int .u16 (a0 : Int), .int .u16 (a1 : Int), .int .u16 (a2 : Int), .int .u16 (a3 : Int), .int .u16 (a4 : Int), .int .u16 (a5 : Int), .int .u16 (a6 : Int), .int .u16 (a7 : Int)] from rfl]
  simp [go_sem, h8]

set_option maxRecDepth 20000 in
set_option maxHeartbeats 4000000 in
theorem walkHoRT (hP : HoPar 11) (hF : HoFmt 15) (hV : HoVal 13) (hL : HoLab 20) (hC : HoCov 25) (h : Hv) (raw : ByteArray) (w : World) (hwf : h.Wf ∧ h.name.length ≤ maxLen) (_ : raw.size ≤ maxLen) (hw : Hw w) :
    Calls Tryz.prog 6 #[h.val, .string raw] w (Yes w) := by
  obtain ⟨hwf, hn⟩ := hwf
  have c9 := fun W hW => awake14_any hP hL hC W hW
  have HW := Lib.hid hw
  have hcell : ∀ W B, RowH W B h.cells → W.cell? ⟨B, 1, none⟩ = some (.string (bs h.name)) := fun W B hr => Row.cell hr (k := 1) (show 1 < 11 by decide)
  have hNs : (bs h.name).size = h.name.length := bs_size _
  have HC0 : h.cells.size = 11 ∧ h.cells.all (·.oneCell') = true := ⟨rfl, hc_one _ _ _ _⟩
  have heq0 := same_host hwf
  show Calls Tryz.prog 6 #[.agg h.cells, .string raw] w (Yes w)
  have hr0 : RowH (w.alloc (.cells h.cells 27)) w.heap.size h.cells := row_new w _ _
  have hb0 : Below w.heap.size w (w.alloc (.cells h.cells 27)) := (Below.refl _ _).alloc (Nat.le_refl _) _
  by_cases hs : h.name.length ≤ 400 ∧ raw.size ≤ 1100
  · obtain ⟨hs1, hs2⟩ := hs
    have hd1 : decide ((400 : Int) < ((bs h.name).size : Int)) = false := decide_eq_false (by omega)
    have hd2 : decide ((1100 : Int) < (raw.size : Int)) = false := decide_eq_false (by omega)
    have cV : ∀ W, Calls Tryz.prog 13 #[.agg h.cells] W fun e w' => e = .returned (.bool (validH h)) ∧ Below W.heap.size W w' := fun W => hV h W hwf (by omega)
    have cF : ∀ W, Hw W → Calls Tryz.prog 15 #[.agg h.cells] W fun e w' => e = .returned (.string (bs (fmtH h))) ∧ Below W.heap.size W w' := fun W hW => hF h W hwf (by omega) hW.1
    have cP1 : ∀ W, Hw W → Calls Tryz.prog 11 #[.string raw] W fun e w' => e = .returned (.tuple #[.agg (parseH (ls raw)).2.cells, .int .i64 ((parseH (ls raw)).1 : Nat)]) ∧ Below W.heap.size W w' := fun W hW => hP raw W (by omega) hW
    have hfl := fmtH_len hwf
    have cP3 : ∀ W, Hw W → validH h = true → Calls Tryz.prog 11 #[.string (bs (fmtH h))] W fun e w' => e = .returned (.tuple #[.agg h.cells, .int .i64 0]) ∧ Below W.heap.size W w' := fun W hW hv => by
      have := hP (bs (fmtH h)) W (by rw [bs_size]; omega) hW
      rw [ls_bs, parse_fmtH hwf hv] at this
      exact this
    have hS : validH h = false → bs (fmtH h) = ⟨#[]⟩ := fun hv => by rw [fmt_no hv]; rfl
    obtain ⟨hpw, hpv⟩ := parse_valid (ls raw)
    have hpn := parseH_name (ls raw)
    obtain ⟨p, hp⟩ : ∃ p, p = (parseH (ls raw)).2 := ⟨_, rfl⟩
    obtain ⟨e1, he1⟩ : ∃ e, e = (parseH (ls raw)).1 := ⟨_, rfl⟩
    rw [← hp] at hpw hpv hpn
    rw [← he1] at hpv
    simp only [← hp, ← he1] at cP1
    clear hp he1
    have HC1 : p.cells.size = 11 ∧ p.cells.all (·.oneCell') = true := ⟨rfl, hc_one _ _ _ _⟩
    have heq1 := neq_host hpw
    have cV1 : ∀ W, Calls Tryz.prog 13 #[.agg p.cells] W fun e w' => e = .returned (.bool (validH p)) ∧ Below W.heap.size W w' := fun W => hV p W hpw (by omega)
    have cF1 : ∀ W, Hw W → Calls Tryz.prog 15 #[.agg p.cells] W fun e w' => e = .returned (.string (bs (fmtH p))) ∧ Below W.heap.size W w' := fun W hW => hF p W hpw (by omega) hW.1
    have hfl1 := fmtH_len hpw
    have cP2 : ∀ W, Hw W → validH p = true → Calls Tryz.prog 11 #[.string (bs (fmtH p))] W fun e w' => e = .returned (.tuple #[.agg p.cells, .int .i64 0]) ∧ Below W.heap.size W w' := fun W hW hv => by
      have := hP (bs (fmtH p)) W (by rw [bs_size]; omega) hW
      rw [ls_bs, parse_fmtH hpw hv] at this
      exact this
    generalize h.cells = C0 at *
    generalize p.cells = C1 at *
    generalize bs (fmtH h) = S0 at *
    generalize bs (fmtH p) = S1 at *
    generalize bs h.name = N at *
    generalize validH h = v0 at *
    generalize validH p = v1 at *
    clear hL hC hP hF hV hfl hfl1 hpn hpw hwf hn hNs hs1 hs2 hw
    rcases hpv with ⟨he, hv⟩ | ⟨he, _⟩
    · subst he hv
      replace cP2 := fun W hW => cP2 W hW rfl
      simp only [show ((0 : Nat) : Int) = 0 from rfl] at cP1
      cases v0 with
      | true =>
        replace cP3 := fun W hW => cP3 W hW rfl
        clear hS
        go_enter Tryz.func6, Tryz.ntmps6
        go_upto_region 1 with fail
        obtain ⟨W0, hW0⟩ : ∃ x, x = w.alloc (.cells C0 27) := ⟨_, rfl⟩
        rw [← hW0] at hr0 hb0
        rw [← hW0]
        clear hW0
        have p1 := hcell W0 _ hr0
        clear hcell
        go_wp2_with fail
        refine (cP1 _ (hw_below HW.out hb0)).mono ?_
        rintro e w1 ⟨rfl, hb1⟩
        replace hr0 : RowH w1 w.heap.size C0 := Row.below hr0 hb1 hr0.lt
        replace hb1 := hb0.trans (hb1.mono hb0.size)
        clear hb0
        clear p1 cP1
        go_wp2_with (first | (refine wpList_store_host rfl rfl _ _ rfl w1.heap.size (by exact rfl) C1 (by exact rfl) hz (row_new w1 hz _) rfl HC1.1 HC1.2 ?_; intro w2 hr1 hg2; replace hr0 : RowH w2 w.heap.size C0 := Row.grown (Row.grown0 hr0 (World.grownBy_alloc w1 (.cells hz 27) none)) hg2 (Nat.ne_of_lt hr0.lt); have hb2 := below_row (hb1.alloc hb1.size (.cells hz 27)) hg2 (Nat.le_refl _) hb1.size; clear hg2 hb1) | (refine wpList_load_host rfl _ rfl w1.heap.size (by exact rfl) C1 hr1 HC1.1 ?_))
        refine (cF1 _ (hw_below HW.out hb2)).mono ?_
        rintro e w3 ⟨rfl, hb3⟩
        replace hr0 : RowH w3 w.heap.size C0 := Row.below hr0 hb3 hr0.lt
        replace hr1 : RowH w3 w1.heap.size C1 := Row.below hr1 hb3 hr1.lt
        replace hb3 := hb2.trans (hb3.mono hb2.size)
        clear hb2
        go_wp2_with fail
        refine (cP2 _ (hw_below HW.out hb3)).mono ?_
        rintro e w4 ⟨rfl, hb4⟩
        replace hr0 : RowH w4 w.heap.size C0 := Row.below hr0 hb4 hr0.lt
        replace hr1 : RowH w4 w1.heap.size C1 := Row.below hr1 hb4 hr1.lt
        replace hb4 := hb3.trans (hb4.mono hb3.size)
        clear hb3
        go_wp2_with (first | (refine wpList_store_host rfl rfl _ _ rfl w4.heap.size (by exact rfl) C1 (by exact rfl) hz (row_new w4 hz _) rfl HC1.1 HC1.2 ?_; intro w5 hr2 hg5; replace hr0 : RowH w5 w.heap.size C0 := Row.grown (Row.grown0 hr0 (World.grownBy_alloc w4 (.cells hz 27) none)) hg5 (Nat.ne_of_lt hr0.lt); replace hr1 : RowH w5 w1.heap.size C1 := Row.grown (Row.grown0 hr1 (World.grownBy_alloc w4 (.cells hz 27) none)) hg5 (Nat.ne_of_lt hr1.lt); have hb5 := below_row (hb4.alloc hb4.size (.cells hz 27)) hg5 (Nat.le_refl _) hb4.size; clear hg5 hb4) | (refine wpList_load_host rfl _ rfl w1.heap.size (by exact rfl) C1 hr1 HC1.1 ?_))
        refine (cV1 _).mono ?_
        rintro e w6 ⟨rfl, hb6⟩
        replace hr0 : RowH w6 w.heap.size C0 := Row.below hr0 hb6 hr0.lt
        replace hr1 : RowH w6 w1.heap.size C1 := Row.below hr1 hb6 hr1.lt
        replace hr2 : RowH w6 w4.heap.size C1 := Row.below hr2 hb6 hr2.lt
        replace hb6 := hb5.trans (hb6.mono hb5.size)
        clear hb5
        go_wp2_with (first | (refine wpList_load_hostw (by rfl) _ rfl w4.heap.size (by exact rfl) C1 hr2 HC1.1 ?_) | (refine wpList_load_hostw (by rfl) _ rfl w1.heap.size (by exact rfl) C1 hr1 HC1.1 ?_) | (refine wpList_load_host rfl _ rfl w.heap.size (by exact rfl) C0 hr0 HC0.1 ?_))
        refine (cF _ (hw_below HW.out hb6)).mono ?_
        rintro e w7 ⟨rfl, hb7⟩
        replace hr0 : RowH w7 w.heap.size C0 := Row.below hr0 hb7 hr0.lt
        replace hb7 := hb6.trans (hb7.mono hb6.size)
        clear hb6
        go_wp2_with (refine wpList_load_host rfl _ rfl w.heap.size (by exact rfl) C0 hr0 HC0.1 ?_)
        refine (cV _).mono ?_
        rintro e w8 ⟨rfl, hb8⟩
        replace hr0 : RowH w8 w.heap.size C0 := Row.below hr0 hb8 hr0.lt
        replace hb8 := hb7.trans (hb8.mono hb7.size)
        clear hb7
        go_wp2_with fail
        refine (cP3 _ (hw_below HW.out hb8)).mono ?_
        rintro e w9 ⟨rfl, hb9⟩
        replace hr0 : RowH w9 w.heap.size C0 := Row.below hr0 hb9 hr0.lt
        replace hb9 := hb8.trans (hb9.mono hb8.size)
        clear hb8
        go_wp2_with (first | (refine wpList_store_host rfl rfl _ _ rfl w9.heap.size (by exact rfl) C0 (by exact rfl) hz (row_new w9 hz _) rfl HC0.1 HC0.2 ?_; intro w10 hr3 hg10; replace hr0 : RowH w10 w.heap.size C0 := Row.grown (Row.grown0 hr0 (World.grownBy_alloc w9 (.cells hz 27) none)) hg10 (Nat.ne_of_lt hr0.lt); have hb10 := below_row (hb9.alloc hb9.size (.cells hz 27)) hg10 (Nat.le_refl _) hb9.size; clear hg10 hb9) | (refine wpList_load_hostw (by rfl) _ rfl w9.heap.size (by exact rfl) C0 hr3 HC0.1 ?_) | (refine wpList_load_hostw (by rfl) _ rfl w.heap.size (by exact rfl) C0 hr0 HC0.1 ?_))
        refine (c9 _ (hw_below HW.out hb10)).mono ?_
        rintro e w11 ⟨rfl, hb11⟩
        go_wp2
        go_ret
        exact ⟨rfl, hb10.trans (hb11.mono hb10.size)⟩
      | false =>
        have hS := hS rfl
        subst hS
        clear cP3
        go_enter Tryz.func6, Tryz.ntmps6
        go_upto_region 1 with fail
        obtain ⟨W0, hW0⟩ : ∃ x, x = w.alloc (.cells C0 27) := ⟨_, rfl⟩
        rw [← hW0] at hr0 hb0
        rw [← hW0]
        clear hW0
        have p1 := hcell W0 _ hr0
        clear hcell
        go_wp2_with fail
        refine (cP1 _ (hw_below HW.out hb0)).mono ?_
        rintro e w1 ⟨rfl, hb1⟩
        replace hr0 : RowH w1 w.heap.size C0 := Row.below hr0 hb1 hr0.lt
        replace hb1 := hb0.trans (hb1.mono hb0.size)
        clear hb0
        clear p1 cP1
        go_wp2_with (first | (refine wpList_store_host rfl rfl _ _ rfl w1.heap.size (by exact rfl) C1 (by exact rfl) hz (row_new w1 hz _) rfl HC1.1 HC1.2 ?_; intro w2 hr1 hg2; replace hr0 : RowH w2 w.heap.size C0 := Row.grown (Row.grown0 hr0 (World.grownBy_alloc w1 (.cells hz 27) none)) hg2 (Nat.ne_of_lt hr0.lt); have hb2 := below_row (hb1.alloc hb1.size (.cells hz 27)) hg2 (Nat.le_refl _) hb1.size; clear hg2 hb1) | (refine wpList_load_host rfl _ rfl w1.heap.size (by exact rfl) C1 hr1 HC1.1 ?_))
        refine (cF1 _ (hw_below HW.out hb2)).mono ?_
        rintro e w3 ⟨rfl, hb3⟩
        replace hr0 : RowH w3 w.heap.size C0 := Row.below hr0 hb3 hr0.lt
        replace hr1 : RowH w3 w1.heap.size C1 := Row.below hr1 hb3 hr1.lt
        replace hb3 := hb2.trans (hb3.mono hb2.size)
        clear hb2
        go_wp2_with fail
        refine (cP2 _ (hw_below HW.out hb3)).mono ?_
        rintro e w4 ⟨rfl, hb4⟩
        replace hr0 : RowH w4 w.heap.size C0 := Row.below hr0 hb4 hr0.lt
        replace hr1 : RowH w4 w1.heap.size C1 := Row.below hr1 hb4 hr1.lt
        replace hb4 := hb3.trans (hb4.mono hb3.size)
        clear hb3
        go_wp2_with (first | (refine wpList_store_host rfl rfl _ _ rfl w4.heap.size (by exact rfl) C1 (by exact rfl) hz (row_new w4 hz _) rfl HC1.1 HC1.2 ?_; intro w5 hr2 hg5; replace hr0 : RowH w5 w.heap.size C0 := Row.grown (Row.grown0 hr0 (World.grownBy_alloc w4 (.cells hz 27) none)) hg5 (Nat.ne_of_lt hr0.lt); replace hr1 : RowH w5 w1.heap.size C1 := Row.grown (Row.grown0 hr1 (World.grownBy_alloc w4 (.cells hz 27) none)) hg5 (Nat.ne_of_lt hr1.lt); have hb5 := below_row (hb4.alloc hb4.size (.cells hz 27)) hg5 (Nat.le_refl _) hb4.size; clear hg5 hb4) | (refine wpList_load_host rfl _ rfl w1.heap.size (by exact rfl) C1 hr1 HC1.1 ?_))
        refine (cV1 _).mono ?_
        rintro e w6 ⟨rfl, hb6⟩
        replace hr0 : RowH w6 w.heap.size C0 := Row.below hr0 hb6 hr0.lt
        replace hr1 : RowH w6 w1.heap.size C1 := Row.below hr1 hb6 hr1.lt
        replace hr2 : RowH w6 w4.heap.size C1 := Row.below hr2 hb6 hr2.lt
        replace hb6 := hb5.trans (hb6.mono hb5.size)
        clear hb5
        go_wp2_with (first | (refine wpList_load_hostw (by rfl) _ rfl w4.heap.size (by exact rfl) C1 hr2 HC1.1 ?_) | (refine wpList_load_hostw (by rfl) _ rfl w1.heap.size (by exact rfl) C1 hr1 HC1.1 ?_) | (refine wpList_load_host rfl _ rfl w.heap.size (by exact rfl) C0 hr0 HC0.1 ?_))
        refine (cF _ (hw_below HW.out hb6)).mono ?_
        rintro e w7 ⟨rfl, hb7⟩
        replace hr0 : RowH w7 w.heap.size C0 := Row.below hr0 hb7 hr0.lt
        replace hb7 := hb6.trans (hb7.mono hb6.size)
        clear hb6
        go_wp2_with (refine wpList_load_host rfl _ rfl w.heap.size (by exact rfl) C0 hr0 HC0.1 ?_)
        refine (cV _).mono ?_
        rintro e w8 ⟨rfl, hb8⟩
        replace hr0 : RowH w8 w.heap.size C0 := Row.below hr0 hb8 hr0.lt
        replace hb8 := hb7.trans (hb8.mono hb7.size)
        clear hb7
        go_wp2_with fail
        refine (c9 _ (hw_below HW.out hb8)).mono ?_
        rintro e w9 ⟨rfl, hb9⟩
        go_wp2
        go_ret
        exact ⟨rfl, hb8.trans (hb9.mono hb8.size)⟩
    · have hd4 : decide (((e1 : Nat) : Int) = 0) = false := decide_eq_false (by omega)
      have hd5 : (((e1 : Nat) : Int) == 0) = false := by rw [beq_eq_false_iff_ne]; omega
      generalize ((e1 : Nat) : Int) = E1 at *
      clear he cP2 cV1 cF1 heq1
      cases v0 with
      | true =>
        replace cP3 := fun W hW => cP3 W hW rfl
        clear hS
        go_enter Tryz.func6, Tryz.ntmps6
        go_upto_region 1 with fail
        obtain ⟨W0, hW0⟩ : ∃ x, x = w.alloc (.cells C0 27) := ⟨_, rfl⟩
        rw [← hW0] at hr0 hb0
        rw [← hW0]
        clear hW0
        have p1 := hcell W0 _ hr0
        clear hcell
        go_wp2_with fail
        refine (cP1 _ (hw_below HW.out hb0)).mono ?_
        rintro e w1 ⟨rfl, hb1⟩
        replace hr0 : RowH w1 w.heap.size C0 := Row.below hr0 hb1 hr0.lt
        replace hb1 := hb0.trans (hb1.mono hb0.size)
        clear hb0
        clear p1 cP1
        go_wp2_with (first | (refine wpList_store_host rfl rfl _ _ rfl w1.heap.size (by exact rfl) C1 (by exact rfl) hz (row_new w1 hz _) rfl HC1.1 HC1.2 ?_; intro w2 hr1 hg2; replace hr0 : RowH w2 w.heap.size C0 := Row.grown (Row.grown0 hr0 (World.grownBy_alloc w1 (.cells hz 27) none)) hg2 (Nat.ne_of_lt hr0.lt); have hb2 := below_row (hb1.alloc hb1.size (.cells hz 27)) hg2 (Nat.le_refl _) hb1.size; clear hg2 hb1) | (refine wpList_load_host rfl _ rfl w.heap.size (by exact rfl) C0 hr0 HC0.1 ?_))
        refine (cF _ (hw_below HW.out hb2)).mono ?_
        rintro e w7 ⟨rfl, hb7⟩
        replace hr0 : RowH w7 w.heap.size C0 := Row.below hr0 hb7 hr0.lt
        replace hb7 := hb2.trans (hb7.mono hb2.size)
        clear hb2
        go_wp2_with (refine wpList_load_host rfl _ rfl w.heap.size (by exact rfl) C0 hr0 HC0.1 ?_)
        refine (cV _).mono ?_
        rintro e w8 ⟨rfl, hb8⟩
        replace hr0 : RowH w8 w.heap.size C0 := Row.below hr0 hb8 hr0.lt
        replace hb8 := hb7.trans (hb8.mono hb7.size)
        clear hb7
        go_wp2_with fail
        refine (cP3 _ (hw_below HW.out hb8)).mono ?_
        rintro e w9 ⟨rfl, hb9⟩
        replace hr0 : RowH w9 w.heap.size C0 := Row.below hr0 hb9 hr0.lt
        replace hb9 := hb8.trans (hb9.mono hb8.size)
        clear hb8
        go_wp2_with (first | (refine wpList_store_host rfl rfl _ _ rfl w9.heap.size (by exact rfl) C0 (by exact rfl) hz (row_new w9 hz _) rfl HC0.1 HC0.2 ?_; intro w10 hr3 hg10; replace hr0 : RowH w10 w.heap.size C0 := Row.grown (Row.grown0 hr0 (World.grownBy_alloc w9 (.cells hz 27) none)) hg10 (Nat.ne_of_lt hr0.lt); have hb10 := below_row (hb9.alloc hb9.size (.cells hz 27)) hg10 (Nat.le_refl _) hb9.size; clear hg10 hb9) | (refine wpList_load_hostw (by rfl) _ rfl w9.heap.size (by exact rfl) C0 hr3 HC0.1 ?_) | (refine wpList_load_hostw (by rfl) _ rfl w.heap.size (by exact rfl) C0 hr0 HC0.1 ?_))
        refine (c9 _ (hw_below HW.out hb10)).mono ?_
        rintro e w11 ⟨rfl, hb11⟩
        go_wp2
        go_ret
        exact ⟨rfl, hb10.trans (hb11.mono hb10.size)⟩
      | false =>
        have hS := hS rfl
        subst hS
        clear cP3
        go_enter Tryz.func6, Tryz.ntmps6
        go_upto_region 1 with fail
        obtain ⟨W0, hW0⟩ : ∃ x, x = w.alloc (.cells C0 27) := ⟨_, rfl⟩
        rw [← hW0] at hr0 hb0
        rw [← hW0]
        clear hW0
        have p1 := hcell W0 _ hr0
        clear hcell
        go_wp2_with fail
        refine (cP1 _ (hw_below HW.out hb0)).mono ?_
        rintro e w1 ⟨rfl, hb1⟩
        replace hr0 : RowH w1 w.heap.size C0 := Row.below hr0 hb1 hr0.lt
        replace hb1 := hb0.trans (hb1.mono hb0.size)
        clear hb0
        clear p1 cP1
        go_wp2_with (first | (refine wpList_store_host rfl rfl _ _ rfl w1.heap.size (by exact rfl) C1 (by exact rfl) hz (row_new w1 hz _) rfl HC1.1 HC1.2 ?_; intro w2 hr1 hg2; replace hr0 : RowH w2 w.heap.size C0 := Row.grown (Row.grown0 hr0 (World.grownBy_alloc w1 (.cells hz 27) none)) hg2 (Nat.ne_of_lt hr0.lt); have hb2 := below_row (hb1.alloc hb1.size (.cells hz 27)) hg2 (Nat.le_refl _) hb1.size; clear hg2 hb1) | (refine wpList_load_host rfl _ rfl w.heap.size (by exact rfl) C0 hr0 HC0.1 ?_))
        refine (cF _ (hw_below HW.out hb2)).mono ?_
        rintro e w7 ⟨rfl, hb7⟩
        replace hr0 : RowH w7 w.heap.size C0 := Row.below hr0 hb7 hr0.lt
        replace hb7 := hb2.trans (hb7.mono hb2.size)
        clear hb2
        go_wp2_with (refine wpList_load_host rfl _ rfl w.heap.size (by exact rfl) C0 hr0 HC0.1 ?_)
        refine (cV _).mono ?_
        rintro e w8 ⟨rfl, hb8⟩
        replace hr0 : RowH w8 w.heap.size C0 := Row.below hr0 hb8 hr0.lt
        replace hb8 := hb7.trans (hb8.mono hb7.size)
        clear hb7
        go_wp2_with fail
        refine (c9 _ (hw_below HW.out hb8)).mono ?_
        rintro e w9 ⟨rfl, hb9⟩
        go_wp2
        go_ret
        exact ⟨rfl, hb8.trans (hb9.mono hb8.size)⟩
  · have c9' := c9 _ (hw_below hw hb0)
    have p1 := hcell _ _ hr0
    rw [← hNs] at hs
    have hdd : (decide ((400 : Int) < ((bs h.name).size : Int)) = true) ∨ (decide ((400 : Int) < ((bs h.name).size : Int)) = false ∧ decide ((1100 : Int) < (raw.size : Int)) = true) := by
      by_cases h1 : (bs h.name).size ≤ 400
      · exact .inr ⟨decide_eq_false (by omega), decide_eq_true (by omega)⟩
      · exact .inl (decide_eq_true (by omega))
    generalize h.cells = C0 at *
    generalize bs h.name = N at *
    clear hs c9 hcell heq0 hr0 hL hC hP hF hV hwf hn hNs hw HC0
    rcases hdd with hd | ⟨hd, hd2⟩
    · go_enter Tryz.func6, Tryz.ntmps6
      go_upto_region 1 with fail
      generalize w.alloc (.cells C0 27) = W0 at *
      go_wp2_with fail
      refine c9'.mono ?_
      rintro e w1 ⟨rfl, hb1⟩
      go_wp2
      go_ret
      exact ⟨rfl, hb0.trans (hb1.mono hb0.size)⟩
    · go_enter Tryz.func6, Tryz.ntmps6
      go_upto_region 1 with fail
      generalize w.alloc (.cells C0 27) = W0 at *
      go_wp2_with fail
      refine c9'.mono ?_
      rintro e w1 ⟨rfl, hb1⟩
      go_wp2
      go_ret
      exact ⟨rfl, hb0.trans (hb1.mono hb0.size)⟩
end

section

end

end Go.Proofs.YtdplgbaneggenaaGreatDoor
