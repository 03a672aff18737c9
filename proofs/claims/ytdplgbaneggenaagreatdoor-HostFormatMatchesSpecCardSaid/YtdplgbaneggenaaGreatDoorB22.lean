/-
Contract of the helper Short of the statements (package hstsstorekeep).
The walk of HostCoversOrder: it returns true.
Contract of allDigits of package ipv4.
Contract of Numeric of package ipv4.
make([]byte, 0, n). No function of the program.
Contracts of Format and Parse of package ipv4; strconv.AppendUint.
-/
import Derived.Test.YtdplgbaneggenaaGreatDoorRows
import Derived.Test.YtdplgbaneggenaaGreatDoorB00
import Derived.BigQuiet
import Derived.Deep.QuietTactic
import Derived.WalkSmall
import Derived.Test.YtdplgbaneggenaaGreatDoorB21
import Derived.Test.YtdplgbaneggenaaGreatDoorB20
import Derived.Test.YtdplgbaneggenaaGreatDoorB02
import Derived.Laws.MakeOwn
import Derived.Test.YtdplgbaneggenaaGreatDoorB11
namespace Go.Proofs.YtdplgbaneggenaaGreatDoor
section
open Go.RowKit

def shortB (n : Int) (ss : List ByteArray) : Bool := ss.all fun s => decide ((s.size : Int) ≤ n)
theorem shortB_no (n : Int) (ss : List ByteArray) (k : Nat) (h : k < ss.length) (hn : n < (ss[k].size : Int)) : shortB n ss = false := by
  unfold shortB
  rw [List.all_eq_false]
  exact ⟨ss[k], List.getElem_mem h, by simp; omega⟩
theorem shortB_succ (n : Int) (ss : List ByteArray) (k : Nat) (h : k < ss.length) (ht : shortB n (ss.take k) = true) (hn : (ss[k].size : Int) ≤ n) : shortB n (ss.take (k + 1)) = true := by
  unfold shortB at ht ⊢
  rw [List.take_succ_eq_append_getElem h, List.all_append, ht]
  simp [hn]

set_option maxHeartbeats 1000000 in
theorem short_any (n : Int) (A : Option Addr) (len cap : Nat) (ss : List ByteArray) (B : Nat) (w : World) (hA : Has w B A len (ss.map Value.string)) (hlen : len ≤ 1000000000) :
    Calls Tryz.prog 17 #[.int .i64 n, .slice A len cap] w fun e w' => e = .returned (.bool (shortB n ss)) ∧ w = w' := by
  have hl : ss.length = len := by simpa using hA.1
  go_enter Tryz.func17, Tryz.ntmps17
  have HL := Lib.hid hl
  have HA := Lib.hid hA
  clear hl hA
  go_wp2
  go_loop [5] (fun i => ∃ k : Nat, k ≤ len ∧ i = .int .i64 k ∧ shortB n (ss.take k) = true) (fun i => len - (intOf i).toNat)
  case atStart => exact ⟨0, Nat.zero_le _, rfl, rfl⟩
  case round =>
    obtain ⟨k, hk, rfl, hsh⟩ := hrel
    have HS := Lib.hid hsh
    clear hsh
    by_cases hlt : k < len
    · have hks : k < ss.length := by rw [HL.out]; exact hlt
      obtain ⟨b, off, rfl, hb, hc⟩ := HA.out.at_ hlt
      rw [List.getElem_map] at hc
      by_cases hn : n < (ss[k].size : Int)
      · have HF := Lib.hid (shortB_no n ss k hks hn)
        go_wp2
        go_ret
        exact ⟨ret_bool HF.out.symm, rfl⟩
      · have HT := Lib.hid (shortB_succ n ss k hks HS.out (by omega))
        go_wp2
        go_round
        case rel => exact ⟨k + 1, by omega, by go_num, HT.out⟩
        case measure => simp [intOf]; omega
    · have HF : Hid (shortB n ss = true) := by
        have := HS.out
        rwa [List.take_of_length_le (by rw [HL.out]; omega)] at this
      go_wp2
      go_ret
      exact ⟨ret_bool HF.out.symm, rfl⟩
end

section
open Go.RowKit Go.Shelf

theorem has_three (w : World) (u v x : Value) (t : TypeId) : Has (w.alloc (.cells #[u, v, x] t)) (w.heap.size + 1) (some ⟨w.heap.size, 0, none⟩) 3 [u, v, x] :=
  ⟨rfl, fun _ => ⟨w.heap.size, 0, rfl, by omega, fun j hj => by
    rw [World.cell?_alloc_at _ _ _ _ rfl, Nat.zero_add]
    match j, hj with
    | 0, _ => rfl
    | 1, _ => rfl
    | 2, _ => rfl⟩⟩

set_option maxRecDepth 20000 in
set_option maxHeartbeats 4000000 in
theorem walkHoOrd (hP : HoPar 11) (hL : HoLab 20) (hV : HoVn 18) (hC : HoCov 25) (a b c : ByteArray) (w : World) (_ : a.size ≤ maxLen) (_ : b.size ≤ maxLen) (_ : c.size ≤ maxLen) (hw : Hw w) :
    Calls Tryz.prog 8 #[.string a, .string b, .string c] w (Yes w) := by
  have c9 := fun W hW => awake14_any hP hL hC W hW
  have HW := Lib.hid hw
  have hhas := has_three w (.string a) (.string b) (.string c) 9
  have hb0 := (Below.refl w.heap.size w).alloc (Nat.le_refl _) (.cells #[.string a, .string b, .string c] 9)
  have cs := short_any 400 (some ⟨w.heap.size, 0, none⟩) 3 3 [a, b, c] (w.heap.size + 1) (w.alloc (.cells #[.string a, .string b, .string c] 9)) hhas (by omega)
  by_cases hs : a.size ≤ 400 ∧ b.size ≤ 400 ∧ c.size ≤ 400
  · have e : shortB 400 [a, b, c] = true := by simp [shortB]; omega
    rw [e] at cs
    have caa := fun W => hC a a W (by omega) (by omega)
    have cab := fun W => hC a b W (by omega) (by omega)
    have cba := fun W => hC b a W (by omega) (by omega)
    have cbc := fun W => hC b c W (by omega) (by omega)
    have cac := fun W => hC a c W (by omega) (by omega)
    have cva := fun W => hV a W (by omega)
    simp only [covers_refl] at caa
    have f1 : coversL (ls a) (ls b) = true → coversL (ls b) (ls a) = true → (a.toList == b.toList) = true := by
      intro x y
      rw [toList_ls, toList_ls, covers_anti x y]
      simp
    have f2 : coversL (ls a) (ls b) = true → coversL (ls b) (ls c) = true → coversL (ls a) (ls c) = true := covers_trans
    have f3 : coversL (ls a) (ls c) = true → coversL (ls b) (ls c) = true → coversL (ls a) (ls b) = true ∨ coversL (ls b) (ls a) = true := covers_comp
    generalize vnL (ls a) = va at *
    generalize coversL (ls a) (ls b) = ab at *
    generalize coversL (ls b) (ls a) = ba at *
    generalize coversL (ls b) (ls c) = bc at *
    generalize coversL (ls a) (ls c) = ac at *
    have e0 : (va == va) = true := by simp
    have hq : (ab = true ∧ ba = true ∧ (a.toList == b.toList) = true ∧ (bc = true → ac = true)) ∨ (ab = true ∧ ba = false ∧ (bc = true → ac = true)) ∨ (ab = false ∧ (ba = true ∨ ac = false ∨ bc = false)) := by
      cases ab <;> cases ba <;> cases bc <;> cases ac <;> simp_all
    clear f1 f2 f3 e hs hw
    clear hhas
    rcases hq with ⟨rfl, rfl, hne, h⟩ | ⟨rfl, rfl, h⟩ | ⟨rfl, h⟩
    · have hne2 : (!(a.toList == b.toList)) = false := by rw [hne]; rfl
      cases bc <;> cases ac <;> first
        | (exfalso; exact absurd (h rfl) (by decide))
        | (clear h
           skip
           go_enter Tryz.func8, Tryz.ntmps8
           go_wp2_with fail
           refine cs.mono ?_
           rintro r w1 ⟨rfl, h1⟩
           rw [h1] at hb0
           clear h1 cs
           go_wp2_with (first
             | (go_at_call 25; (first | (with_reducible refine (caa _).mono ?_) | (with_reducible refine (cab _).mono ?_) | (with_reducible refine (cba _).mono ?_) | (with_reducible refine (cbc _).mono ?_) | (with_reducible refine (cac _).mono ?_)); rintro r wX ⟨rfl, hbX⟩; replace hb0 := hb0.trans (hbX.mono hb0.size); clear hbX)
             | (go_at_call 18; refine (cva _).mono ?_; rintro r wX ⟨rfl, hbX⟩; replace hb0 := hb0.trans (hbX.mono hb0.size); clear hbX)
             | (go_at_call 10; refine (c9 _ (hw_below HW.out hb0)).mono ?_; rintro r wX ⟨rfl, hbX⟩; replace hb0 := hb0.trans (hbX.mono hb0.size); clear hbX))
           go_ret
           exact ⟨rfl, hb0⟩)
    · cases bc <;> cases ac <;> first
        | (exfalso; exact absurd (h rfl) (by decide))
        | (clear h
           skip
           go_enter Tryz.func8, Tryz.ntmps8
           go_wp2_with fail
           refine cs.mono ?_
           rintro r w1 ⟨rfl, h1⟩
           rw [h1] at hb0
           clear h1 cs
           go_wp2_with (first
             | (go_at_call 25; (first | (with_reducible refine (caa _).mono ?_) | (with_reducible refine (cab _).mono ?_) | (with_reducible refine (cba _).mono ?_) | (with_reducible refine (cbc _).mono ?_) | (with_reducible refine (cac _).mono ?_)); rintro r wX ⟨rfl, hbX⟩; replace hb0 := hb0.trans (hbX.mono hb0.size); clear hbX)
             | (go_at_call 18; refine (cva _).mono ?_; rintro r wX ⟨rfl, hbX⟩; replace hb0 := hb0.trans (hbX.mono hb0.size); clear hbX)
             | (go_at_call 10; refine (c9 _ (hw_below HW.out hb0)).mono ?_; rintro r wX ⟨rfl, hbX⟩; replace hb0 := hb0.trans (hbX.mono hb0.size); clear hbX))
           go_ret
           exact ⟨rfl, hb0⟩)
    · cases ba <;> cases bc <;> cases ac <;> first
        | (exfalso; revert h; decide)
        | (clear h
           skip
           go_enter Tryz.func8, Tryz.ntmps8
           go_wp2_with fail
           refine cs.mono ?_
           rintro r w1 ⟨rfl, h1⟩
           rw [h1] at hb0
           clear h1 cs
           go_wp2_with (first
             | (go_at_call 25; (first | (with_reducible refine (caa _).mono ?_) | (with_reducible refine (cab _).mono ?_) | (with_reducible refine (cba _).mono ?_) | (with_reducible refine (cbc _).mono ?_) | (with_reducible refine (cac _).mono ?_)); rintro r wX ⟨rfl, hbX⟩; replace hb0 := hb0.trans (hbX.mono hb0.size); clear hbX)
             | (go_at_call 18; refine (cva _).mono ?_; rintro r wX ⟨rfl, hbX⟩; replace hb0 := hb0.trans (hbX.mono hb0.size); clear hbX)
             | (go_at_call 10; refine (c9 _ (hw_below HW.out hb0)).mono ?_; rintro r wX ⟨rfl, hbX⟩; replace hb0 := hb0.trans (hbX.mono hb0.size); clear hbX))
           go_ret
           exact ⟨rfl, hb0⟩)
  · have e : shortB 400 [a, b, c] = false := by
      unfold shortB
      rw [List.all_eq_false]
      by_cases h1 : a.size ≤ 400
      · by_cases h2 : b.size ≤ 400
        · exact ⟨c, by simp, by simp; omega⟩
        · exact ⟨b, by simp, by simp; omega⟩
      · exact ⟨a, by simp, by simp; omega⟩
    rw [e] at cs
    have c9' := c9 _ (hw_below hw hb0)
    clear hs hw c9
    generalize hw1 : w.alloc (.cells #[.string a, .string b, .string c] 9) = w1 at *
    have HE := Lib.hid hw1
    go_enter Tryz.func8, Tryz.ntmps8
    go_wp2_with fail
    refine cs.mono ?_
    rintro r w' ⟨rfl, rfl⟩
    go_wp2_with fail
    refine c9'.mono ?_
    rintro r w2 ⟨rfl, hb2⟩
    go_wp2
    go_ret
    exact ⟨rfl, hb0.trans (hb2.mono hb0.size)⟩
end

section
open Go.RowKit

theorem allDigits_any (s : ByteArray) (hs : s.size ≤ 1000000000) (b : Nat) (hb : b ≤ 16) (w : World) :
    Calls Tryz.prog 65 #[.string s, .int .u64 b] w fun e w' => e = .returned (.bool ((ls s).all (fun c => decide (digV c < b)))) ∧ w = w' := by
  go_enter Tryz.func65, Tryz.ntmps65
  go_wp2
  go_loop [8] (fun i => ∃ k : Nat, k ≤ s.size ∧ i = .int .i64 k ∧ Hid ((ls s).all (fun c => decide (digV c < b)) = ((ls s).drop k).all (fun c => decide (digV c < b)))) (fun i => s.size - (intOf i).toNat)
  case atStart => exact ⟨0, Nat.zero_le _, rfl, Lib.hid rfl⟩
  case round =>
    obtain ⟨k, hk, rfl, HA⟩ := hrel
    by_cases hlt : k < s.size
    · have hd := digit_any s[k]
      have HD : Hid (((ls s).drop k).all (fun c => decide (digV c < b)) = (decide (digV s[k] < b) && ((ls s).drop (k + 1)).all (fun c => decide (digV c < b)))) := by
        show _ = _
        rw [drop_ls_cons s k hlt, List.all_cons]
      by_cases hg : digV s[k] < b
      · have hge : decide ((b : Int) ≤ ((pd s[k] : Nat) : Int)) = false := decide_eq_false (by have := (pd_lt s[k] b hb).2 hg; omega)
        have HN : Hid ((ls s).all (fun c => decide (digV c < b)) = ((ls s).drop (k + 1)).all (fun c => decide (digV c < b))) := by
          show _ = _
          rw [HA.out, HD.out, decide_eq_true hg, Bool.true_and]
        clear hg
        generalize ((pd s[k] : Nat) : Int) = d at *
        go_wp2_with (go_at_call 97; refine (hd _).mono ?_; rintro e w' ⟨rfl, rfl⟩)
        go_round
        case rel => exact ⟨k + 1, by omega, by go_num, HN⟩
        case measure => simp [intOf]; omega
      · have hge : decide ((b : Int) ≤ ((pd s[k] : Nat) : Int)) = true := decide_eq_true (by have := mt (pd_lt s[k] b hb).1 hg; omega)
        have HN : Hid ((ls s).all (fun c => decide (digV c < b)) = false) := by
          show _ = _
          rw [HA.out, HD.out, decide_eq_false hg, Bool.false_and]
        clear hg
        generalize ((pd s[k] : Nat) : Int) = d at *
        go_wp2_with (go_at_call 97; refine (hd _).mono ?_; rintro e w' ⟨rfl, rfl⟩)
        go_ret
        exact ⟨ret_bool HN.out.symm, rfl⟩
    · obtain rfl : k = s.size := by omega
      have HN : Hid ((ls s).all (fun c => decide (digV c < b)) = true) := by
        show _ = _
        rw [HA.out, drop_ls_all]
        rfl
      go_wp2
      go_ret
      exact ⟨ret_bool HN.out.symm, rfl⟩
end

section
open Go.RowKit

theorem num_any (s : ByteArray) (hs : s.size ≤ 1000000000) (w : World) :
    Calls Tryz.prog 33 #[.string s] w fun e w' => e = .returned (.bool (numericL (ls s))) ∧ w = w' := by
  have c1 := undot_any s hs w
  obtain ⟨T, hT⟩ : ∃ T, T = bs (undot (ls s)) := ⟨_, rfl⟩
  rw [← hT] at c1
  have hTs : T.size ≤ 1000000000 := by rw [hT, bs_size]; have := undot_le (ls s); rw [ls_length] at this; omega
  obtain ⟨i, hi, hib, hlast⟩ := last_index T
  have c2 := fun W => Any.strings_LastIndexByte Tryz.lays149 T 46 (by omega) W
  obtain ⟨x, hx⟩ : ∃ x, x = Lib.lastIndexByte T 46 := ⟨_, rfl⟩
  rw [← hx] at c2 hi
  obtain ⟨X, hX⟩ : ∃ X, X = T.extract i T.size := ⟨_, rfl⟩
  have hL : ls X = (ls T).drop i := by
    rw [hX, ls_extract]
    exact List.take_of_length_le (by rw [List.length_drop, ls_length]; omega)
  have hXs : X.size ≤ 1000000000 := by rw [hX, ByteArray.size_extract]; omega
  have hV : numericL (ls s) = if hexP (ls X) = true then ((ls X).drop 2).all (fun c => decide (digV c < 16)) else (!(ls X).isEmpty && (ls X).all (fun c => decide (digV c < 10))) := by
    rw [numeric_last, ← lastNum_eq, hL, ← hlast, hT, ls_bs]
  have c3 := isHex_any X
  have hx0 : -1 ≤ x := by omega
  have hx1 : x ≤ 1000000000 := by omega
  have hxi : x = (i : Int) - 1 := by omega
  subst hxi
  have hii : (i : Int) - 1 + 1 = (i : Int) := by omega
  have HX := Lib.hid hX
  clear hT hlast hL hx hi hX
  by_cases hh : hexP (ls X) = true
  · rw [if_pos hh] at hV
    rw [hh] at c3
    obtain ⟨b, r, e, _⟩ := (hexP_iff _).1 hh
    have h2 : 2 ≤ X.size := by rw [← ls_length, e]; simp
    have c4 := allDigits_any (X.extract 2 X.size) (by rw [ByteArray.size_extract]; omega) 16 (by omega)
    have e2 : ls (X.extract 2 X.size) = (ls X).drop 2 := by
      rw [ls_extract]
      exact List.take_of_length_le (by rw [List.length_drop, ls_length]; exact Nat.le_refl _)
    rw [e2] at c4
    have HV := Lib.hid hV
    generalize ((ls X).drop 2).all (fun c => decide (digV c < 16)) = q at *
    clear hV hh e e2
    go_enter Tryz.func33, Tryz.ntmps33
    go_wp2_with fail
    refine c1.mono ?_
    rintro e w' ⟨rfl, rfl⟩
    go_wp2_with fail
    refine (c2 _).mono ?_
    rintro e w' ⟨rfl, rfl⟩
    go_wp2_with fail
    rw [← HX.out]
    refine (c3 _).mono ?_
    rintro e w' ⟨rfl, rfl⟩
    go_wp2_with fail
    refine (c4 _).mono ?_
    rintro e w' ⟨rfl, rfl⟩
    go_wp2
    go_ret
    exact ⟨ret_bool HV.out.symm, rfl⟩
  · rw [if_neg hh] at hV
    rw [Bool.not_eq_true] at hh
    rw [hh] at c3
    have hemp : (ls X).isEmpty = decide (X.size = 0) := isEmpty_ls X
    by_cases h0 : X.size = 0
    · have hE : X.toList = ([] : List UInt8) := by rw [toList_ls]; exact List.eq_nil_of_length_eq_zero (by rw [ls_length]; exact h0)
      have HV : Hid (numericL (ls s) = false) := by show _ = _; rw [hV, hemp, decide_eq_true h0]; rfl
      clear hV hh hemp
      go_enter Tryz.func33, Tryz.ntmps33
      go_wp2_with fail
      refine c1.mono ?_
      rintro e w' ⟨rfl, rfl⟩
      go_wp2_with fail
      refine (c2 _).mono ?_
      rintro e w' ⟨rfl, rfl⟩
      go_wp2_with fail
      rw [← HX.out]
      refine (c3 _).mono ?_
      rintro e w' ⟨rfl, rfl⟩
      go_wp2
      go_ret
      exact ⟨ret_bool HV.out.symm, rfl⟩
    · have hE : ¬ X.toList = ([] : List UInt8) := by rw [toList_ls]; exact ls_some X (Nat.pos_of_ne_zero h0)
      have hE2 : X.toList.isEmpty = false := by rw [toList_ls, hemp, decide_eq_false h0]
      have c4 := allDigits_any X hXs 10 (by omega)
      have HV : Hid (numericL (ls s) = (ls X).all (fun c => decide (digV c < 10))) := by show _ = _; rw [hV, hemp, decide_eq_false h0]; rfl
      generalize (ls X).all (fun c => decide (digV c < 10)) = q at *
      clear hV hh hemp
      go_enter Tryz.func33, Tryz.ntmps33
      go_wp2_with fail
      refine c1.mono ?_
      rintro e w' ⟨rfl, rfl⟩
      go_wp2_with fail
      refine (c2 _).mono ?_
      rintro e w' ⟨rfl, rfl⟩
      go_wp2_with fail
      rw [← HX.out]
      refine (c3 _).mono ?_
      rintro e w' ⟨rfl, rfl⟩
      go_wp2_with fail
      refine (c4 _).mono ?_
      rintro e w' ⟨rfl, rfl⟩
      go_wp2
      go_ret
      exact ⟨ret_bool HV.out.symm, rfl⟩
end

section
open Go.RowKit

/-- make([]byte, 0, c). -/
theorem wpList_make_room (w : World) {ops : Array Oper} {rest : List Oper} {o : Oper} {a : Act} {Q : Exit → Act → World → Prop}
    (hg : o.guard = none) (l c : Operand) (hop : o.op = Op.makeSlice 43 l c) (n : Int) (hl : a.eval l = .int .i64 0) (hc : a.eval c = .int .i64 n) (h0 : 0 ≤ n) (hn : n ≤ 4000000000)
    (h : ∀ v' w', w'.ownsRow w.heap.size 5 1 v' 0 [] → Below w.heap.size w w' → wpList Tryz.prog ops Q rest (a.put o.dst v') w') : wpList Tryz.prog ops Q (o :: rest) a w := by
  refine wpList_plain hg fun K hK' => ?_
  obtain ⟨i, hi, hz0, hz1, hz2⟩ := info_parts infoU8
  have hrun := run_make (P := Tryz.prog) w 43 5 i (.int .u8 0) tyBs hi hz0 .i64 .i64 0 n (by omega) (by omega) (by rw [hz2]; omega) (by omega)
  rw [hz1, Nat.mul_one] at hrun
  have hm : madeCells (Value.int .u8 0).cells n.toNat = zeros n.toNat := made_u8 _
  rw [hm] at hrun
  have := h (.slice (some ⟨w.heap.size, 0, none⟩) 0 n.toNat) (w.alloc (.cells (zeros n.toNat) 5))
    ⟨rfl, .inr ⟨w.heap.size, n.toNat, zeros n.toNat, rfl, Nat.le_refl _, by show (w.heap.push _)[w.heap.size]? = _; simp, Nat.zero_le _, by unfold maxLen; omega, by simp [zeros], by simp⟩⟩
    ((Below.refl _ _).alloc (Nat.le_refl _) _)
  unfold Oper.wp
  simp [execOp, hop, hl, hc, hrun, Result.andThen]
  exact hK' _ _ this
end

section
open Go.RowKit

theorem tabN_eq : tabN = "internal/strconv.uint64pow10" := rfl
theorem append_any (B n u : Nat) (hu : u < 18446744073709551616) (sv : Value) (l : List UInt8) (w : World) (hp : Pow w) (hown : w.ownsRow B 5 1 sv n (l.map bv)) (hB : B ≤ w.heap.size) (hn : n ≤ 1000000000) :
    Calls Tryz.prog 78 #[sv, .int .u64 u, .int .i64 10] w fun e w' => ∃ v', e = .returned v' ∧ w'.ownsRow B 5 1 v' (n + (Lib.decDigits u).length) ((l ++ Lib.decDigits u).map bv) ∧ Below B w w' := by
  have c1 := Any.internal_strconv_AppendUint_10 Tryz.laysM288 B n u hu sv (l.map bv) w hown hB (by omega) hp
  have HM : Hid (∀ m : List UInt8, l.map bv ++ Lib.byteCells m = (l ++ m).map bv) := by
    show ∀ m : List UInt8, _ = _
    intro m
    rw [List.map_append]
    rfl
  clear hown hp
  go_enter Tryz.func78, Tryz.ntmps78
  go_wp2_with fail
  refine c1.mono ?_
  rintro e w' ⟨v', rfl, h1, h2, _⟩
  rw [HM.out] at h1
  go_wp2
  go_ret
  exact ⟨_, rfl, h1, h2⟩

set_option maxRecDepth 20000 in
set_option maxHeartbeats 4000000 in
theorem fmt_any (v : Int) (hv0 : 0 ≤ v) (hv1 : v < 4294967296) (w : World) (hp : Pow w) :
    Calls Tryz.prog 45 #[.int .u32 v] w fun e w' => e = .returned (.string (bs (fmtI v.toNat))) ∧ Below w.heap.size w w' := by
  obtain ⟨i5, hi5, hz0, hz1, hz2⟩ := info_parts infoU8
  have hF : fmtF v.toNat 4 = fmtI v.toNat := fmtF_all _ (by omega)
  have HF := Lib.hid hF
  clear hF
  go_enter Tryz.func45, Tryz.ntmps45
  go_wp2_with (refine wpList_make_room _ rfl _ _ rfl 15 rfl rfl (by decide) (by decide) ?_; intro v0 w0 hown0 hb0)
  go_loopg [3, 7] 4 (fun g t i wr => ∃ k : Nat, k ≤ 4 ∧ g = 4 - k ∧ i = .int .i64 k ∧ wr.ownsRow w.heap.size 5 1 t (fmtF v.toNat k).length ((fmtF v.toNat k).map bv) ∧ Below w.heap.size w wr)
  case atStart => exact ⟨0, by omega, rfl, rfl, hown0, hb0⟩
  case round =>
    obtain ⟨k, hk, hg, rfl, hown, hb⟩ := hrel
    have HG := Lib.hid hg
    clear hg
    have hlen := fmtF_length v.toNat k
    by_cases hk4 : k < 4
    · obtain ⟨K, hK⟩ : ∃ K, K = 8 * (3 - k) := ⟨_, rfl⟩
      have hKK : (8 : Int) * (3 - (k : Int)) = (K : Int) := by omega
      have hK32 : K ≤ 32 := by omega
      obtain ⟨r, hr⟩ : ∃ r : Nat, r = v.toNat / 2 ^ K := ⟨_, rfl⟩
      have hrv : v / 2 ^ K = (r : Int) := by
        rw [hr, Int.natCast_ediv, Int.natCast_pow, show ((v.toNat : Nat) : Int) = v by omega]
        rfl
      have HR := Lib.hid hrv
      have hrb : r < 4294967296 := by
        rw [hr]
        exact Nat.lt_of_le_of_lt (Nat.div_le_self _ _) (by omega)
      obtain ⟨u, hu⟩ : ∃ u, u = r % 256 := ⟨_, rfl⟩
      have hand : bits .and .u64 (r : Int) 255 = (u : Int) := by
        have := u64_and_nat r 255 (by omega) (by omega)
        rw [show ((255 : Nat) : Int) = 255 from rfl] at this
        rw [this, hu, show 255 = 2 ^ 8 - 1 from rfl, Nat.and_two_pow_sub_one_eq_mod]
      have hwr : IntKind.u64.wrap (r : Int) = (r : Int) := by rw [IntKind.wrap_u64]; omega
      have hdec : Lib.decDigits (v.toNat / 256 ^ (3 - k) % 256) = Lib.decDigits u := by
        rw [hu, hr, hK, Nat.pow_mul]
      have hub : u < 256 := by omega
      have hdl := dec_len3 u hub
      by_cases h0 : k = 0
      · have HN : Hid (fmtF v.toNat (k + 1) = fmtF v.toNat k ++ Lib.decDigits u) := by
          show _ = _
          rw [fmtF, hdec, if_pos h0]
          rfl
        have hd : decide ((0 : Int) < (k : Int)) = false := decide_eq_false (by omega)
        have hdN : decide (0 < k) = false := decide_eq_false (by omega)
        have HU := Lib.hid (show u < 18446744073709551616 by omega)
        clear hK hr hrv hu hdec h0
        go_wp2_with (refine wpList_shr32 _ rfl _ _ _ _ rfl (by kernel_rfl) _ K hK32 (by exact rfl) (by exact rfl) _ HR.out ?_)
        refine (append_any w.heap.size _ u HU.out _ _ _ (pow_below hp hb) hown hb.size (by omega)).mono ?_
        rintro e w1 ⟨v1, rfl, hown1, hb1⟩
        replace hb1 := hb.trans hb1
        have hl : (fmtF v.toNat (k + 1)).length = (fmtF v.toNat k).length + (Lib.decDigits u).length := by rw [HN.out, List.length_append]
        rw [← HN.out, ← hl] at hown1
        go_wp2
        go_roundg (4 - (k + 1))
        case rel => exact ⟨k + 1, by omega, rfl, by go_num, hown1, hb1⟩
        case measure => rw [HG.out]; omega
      · have HN : Hid (fmtF v.toNat (k + 1) = (fmtF v.toNat k ++ [46]) ++ Lib.decDigits u) := by
          show _ = _
          rw [fmtF, hdec, if_neg h0, List.append_assoc]
        have hd : decide ((0 : Int) < (k : Int)) = true := decide_eq_true (by omega)
        have hdN : decide (0 < k) = true := decide_eq_true (by omega)
        have HU := Lib.hid (show u < 18446744073709551616 by omega)
        clear hK hr hrv hu hdec h0
        go_wp2_with (at_builtin; refine wpList_app_one wr rfl _ _ 43 rfl w.heap.size 5 i5 (.int .u8 0) 1 tyBs hi5 hz0 hz1 hz2 rfl _ (by exact rfl) _ _ _ (by exact rfl) hown (by exact rfl) (by unfold maxLen; omega) (by omega) hb (Nat.le_refl _) ?_; intro v2 w2 hown2 hb2 hgr)
        rw [show (fmtF v.toNat k).map bv ++ [Value.int .u8 46] = (fmtF v.toNat k ++ [46]).map bv by rw [List.map_append]; rfl] at hown2
        go_wp2_with fail
        rw [HR.out, hwr, hand]
        refine (append_any w.heap.size _ u HU.out _ _ _ (pow_below hp hb2) hown2 hb2.size (by omega)).mono ?_
        rintro e w1 ⟨v1, rfl, hown1, hb1⟩
        replace hb1 := hb2.trans hb1
        have hl : (fmtF v.toNat (k + 1)).length = (fmtF v.toNat k).length + 1 + (Lib.decDigits u).length := by rw [HN.out, List.length_append, List.length_append]; rfl
        rw [← HN.out, ← hl] at hown1
        go_wp2
        go_roundg (4 - (k + 1))
        case rel => exact ⟨k + 1, by omega, rfl, by go_num, hown1, hb1⟩
        case measure => rw [HG.out]; omega
    · obtain rfl : k = 4 := by omega
      have hconv := str_owned wr _ _ _ _ hown
      rw [HF.out] at hconv
      go_wp2
      go_ret
      exact ⟨rfl, hb⟩

theorem par_any (s : ByteArray) (w : World) (hs : s.size ≤ 1000000000) (hp : Pow w) :
    Calls Tryz.prog 92 #[.string s] w fun e w' => e = .returned (.tuple #[.int .u32 (aV (parseL (ls s))), .bool (aK (parseL (ls s)))]) ∧ Below w.heap.size w w' := by
  have c1 := pn_any s hs w
  cases hq : pnL (ls s) with
  | none =>
    have HE : Hid (parseL (ls s) = none) := by show _ = _; rw [parse_pn, hq]
    rw [hq, show aV (none : Option Nat) = 0 from rfl, show aK (none : Option Nat) = false from rfl] at c1
    clear hq
    go_enter Tryz.func92, Tryz.ntmps92
    go_wp2_with fail
    refine c1.mono ?_
    rintro e w' ⟨rfl, rfl⟩
    go_wp2
    go_ret2
    rw [HE.out]
    exact ⟨rfl, Below.refl _ _⟩
  | some v =>
    have hv := pnL_range hq
    have c2 := fmt_any (v : Int) (by omega) (by omega) w hp
    rw [show ((v : Int)).toNat = v from rfl] at c2
    rw [hq, show aV (some v) = (v : Int) from rfl, show aK (some v) = true from rfl] at c1
    by_cases hf : fmtI v = ls s
    · have HE : Hid (parseL (ls s) = some v) := by show _ = _; rw [parse_pn, hq]; exact if_pos hf
      rw [hf, bs_ls] at c2
      clear hq hf
      go_enter Tryz.func92, Tryz.ntmps92
      go_wp2_with fail
      refine c1.mono ?_
      rintro e w' ⟨rfl, hw⟩
      subst hw
      go_wp2_with fail
      refine c2.mono ?_
      rintro e w2 ⟨rfl, hb⟩
      go_wp2
      go_ret2
      rw [HE.out]
      exact ⟨rfl, hb⟩
    · have HE : Hid (parseL (ls s) = none) := by show _ = _; rw [parse_pn, hq]; exact if_neg hf
      obtain ⟨X, hX⟩ : ∃ X, X = bs (fmtI v) := ⟨_, rfl⟩
      have hne : ¬ X.toList = s.toList := by
        rw [toList_ls, toList_ls, hX, ls_bs]
        exact hf
      have hn2 : (X.toList == s.toList) = false := beq_eq_false_iff_ne.2 hne
      have hn3 : (!X.toList == s.toList) = true := by rw [hn2]; rfl
      rw [← hX] at c2
      clear hq hf hX
      go_enter Tryz.func92, Tryz.ntmps92
      go_wp2_with fail
      refine c1.mono ?_
      rintro e w' ⟨rfl, hw⟩
      subst hw
      go_wp2_with fail
      refine c2.mono ?_
      rintro e w2 ⟨rfl, hb⟩
      go_wp2
      go_ret2
      rw [HE.out]
      exact ⟨rfl, hb⟩
end

end Go.Proofs.YtdplgbaneggenaaGreatDoor
