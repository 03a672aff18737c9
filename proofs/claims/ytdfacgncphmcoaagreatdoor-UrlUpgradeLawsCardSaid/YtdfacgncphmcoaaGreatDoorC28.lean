/-
The reference's small functions of package url.
The reference's index of package url: the first byte that is in a set.
Contract of Lower of the reference of layer 1.
The reference's scheme of package url.
The reference's parse of package url, in plain words: where its loops stand.
The reference's hex of layer 14.
The reference's decode of layer 14.
Contract of the helper Mod of the statements (package hstsstorekeep); it needs nothing else.
The law of the case of URLs' schemes (written by tools/gen-UrCs.py).
-/
import Derived.Test.YtdfacgncphmcoaaGreatDoorC25
import Derived.Test.YtdfacgncphmcoaaGreatDoorC07
import Derived.Test.YtdfacgncphmcoaaGreatDoorC01
import Derived.Deep.RegionHeld3
import Derived.Test.YtdfacgncphmcoaaGreatDoorC04
import Derived.Test.YtdfacgncphmcoaaGreatDoorC18
import Derived.Test.YtdfacgncphmcoaaGreatDoorC20
import Derived.Deep.LoopGhost
import Derived.StillTailTactics
import Derived.BigQuiet
import Derived.Test.YtdfacgncphmcoaaGreatDoorRows
import Derived.Test.YtdfacgncphmcoaaGreatDoorC00
import Derived.Test.YtdfacgncphmcoaaGreatDoorC26
namespace Go.Proofs.YtdfacgncphmcoaaGreatDoor
section
open Go.RowKit Go.Shelf
end

section
open Go.RowKit Go.Shelf
theorem idx_none {p : UInt8 → Bool} {s : ByteArray} (h : ∀ b ∈ (ls s).take s.size, p b = false) : (befL p (ls s)).length = s.size := by
  rw [List.take_of_length_le (by rw [ls_length]; exact Nat.le_refl _)] at h
  rw [(bef_nil h).1, ls_length]
theorem ls_at (s : ByteArray) (n : Nat) (hn : n < s.size) (hl : n < (ls s).length) : (ls s)[n] = s[n] := by
  have := Lib.data_getElem? s n hn
  rw [List.getElem?_eq_getElem (by rw [Lib.size_eq] at hn; exact hn)] at this
  exact Option.some.inj this
theorem take_split (s : ByteArray) (n : Nat) (hn : n < s.size) : ls s = (ls s).take n ++ s[n] :: (ls s).drop (n + 1) := by
  have hl : n < (ls s).length := by rw [ls_length]; exact hn
  conv => lhs; rw [← List.take_append_drop n (ls s), List.drop_eq_getElem_cons hl, ls_at s n hn hl]
  rfl
theorem idx_hit {p : UInt8 → Bool} {s : ByteArray} {n : Nat} (hn : n < s.size) (h : ∀ b ∈ (ls s).take n, p b = false) (hp : p s[n] = true) : (befL p (ls s)).length = n := by
  have e := take_split s n hn
  obtain ⟨h1, _⟩ := bef_app h (b := s[n] :: (ls s).drop (n + 1)) _ _ rfl hp
  rw [← e] at h1
  rw [h1, List.length_take, ls_length]
  omega
theorem idx_more {p : UInt8 → Bool} {s : ByteArray} {n : Nat} (hn : n < s.size) (h : ∀ b ∈ (ls s).take n, p b = false) (hp : p s[n] = false) : ∀ b ∈ (ls s).take (n + 1), p b = false := by
  have hl : n < (ls s).length := by rw [ls_length]; exact hn
  intro b hb
  rw [← List.take_append_getElem hl] at hb
  rcases List.mem_append.1 hb with hb | hb
  · exact h b hb
  · rw [List.mem_singleton.1 hb, ls_at s n hn hl]
    exact hp
end

section
open Go.RowKit
set_option maxHeartbeats 1000000 in
theorem refLower_any (s : ByteArray) (w : World) (hs : s.size ≤ 1000000000) :
    Calls Tryz.prog 27 #[.string s] w fun e w' => e = .returned (.string (lowS s)) ∧ Below w.heap.size w w' := by
  obtain ⟨i5, hi5, hz0, hz1, hz2⟩ := info_parts infoU8
  go_enter Tryz.func27, Tryz.ntmps27
  go_wp2
  go_loopw [3, 4] (fun v i wr => ∃ k : Nat, k ≤ s.size ∧ i = .int .i64 k ∧ wr.ownsRow w.heap.size 5 1 v k (((lowL (ls s)).take k).map bv) ∧ Below w.heap.size w wr) (fun _ i _ => s.size - (intOf i).toNat)
  case atStart => exact ⟨0, Nat.zero_le _, rfl, World.ownsRow_nil _ _ _ _, Below.refl _ _⟩
  case round =>
    obtain ⟨k, hk, rfl, hown, hb⟩ := hrel
    by_cases hlt : k < s.size
    · have hnext : Hid ((((lowL (ls s)).take k).map bv) ++ [.int .u8 (lowI (s[k].toNat : Int))] = ((lowL (ls s)).take (k + 1)).map bv) := by
        have hl : k < (lowL (ls s)).length := by rw [lowL_length, ls_length]; exact hlt
        rw [List.take_succ_eq_append_getElem hl, List.map_append]
        simp only [lowL, List.getElem_map, ls_getE s k hlt, List.map_cons, List.map_nil, bv_eq, lowU_toNat]
        rfl
      have hbl := byte_lt s[k]
      by_cases hu : upperB (s[k].toNat : Int) = true
      · have hlo : Hid (lowI (s[k].toNat : Int) = (s[k].toNat : Int) + 32) := by show _ = _; simp [lowI, hu]
        have h65 : (65 : Int) ≤ (s[k].toNat : Int) := by simp [upperB] at hu; omega
        have h90 : (s[k].toNat : Int) ≤ 90 := by simp [upperB] at hu; omega
        clear hu
        go_wp2_with (at_builtin; refine wpList_app_one _ rfl _ _ 40 rfl w.heap.size 5 i5 (.int .u8 0) 1 tyBs hi5 hz0 hz1 hz2 rfl _ (by exact rfl) _ _ _ (by exact rfl) hown (by exact rfl) (by unfold maxLen; omega) (by omega) hb (Nat.le_refl _) ?_; intro v' w' hown' hb' _)
        go_roundw
        case rel => exact ⟨k + 1, by omega, by go_num, by rw [← hnext.out, hlo.out]; exact hown', hb'⟩
        case measure => simp [intOf]; omega
      · have hlo : Hid (lowI (s[k].toNat : Int) = (s[k].toNat : Int)) := by show _ = _; simp [lowI, hu]
        have hnu : ¬ ((65 : Int) ≤ (s[k].toNat : Int) ∧ (s[k].toNat : Int) ≤ 90) := by
          intro hc
          exact hu (by simp [upperB]; omega)
        clear hu
        by_cases h65 : (65 : Int) ≤ (s[k].toNat : Int)
        · have h90 : ¬ (s[k].toNat : Int) ≤ 90 := fun hc => hnu ⟨h65, hc⟩
          clear hnu
          go_wp2_with (at_builtin; refine wpList_app_one _ rfl _ _ 40 rfl w.heap.size 5 i5 (.int .u8 0) 1 tyBs hi5 hz0 hz1 hz2 rfl _ (by exact rfl) _ _ _ (by exact rfl) hown (by exact rfl) (by unfold maxLen; omega) (by omega) hb (Nat.le_refl _) ?_; intro v' w' hown' hb' _)
          go_roundw
          case rel => exact ⟨k + 1, by omega, by go_num, by rw [← hnext.out, hlo.out]; exact hown', hb'⟩
          case measure => simp [intOf]; omega
        · clear hnu
          go_wp2_with (at_builtin; refine wpList_app_one _ rfl _ _ 40 rfl w.heap.size 5 i5 (.int .u8 0) 1 tyBs hi5 hz0 hz1 hz2 rfl _ (by exact rfl) _ _ _ (by exact rfl) hown (by exact rfl) (by unfold maxLen; omega) (by omega) hb (Nat.le_refl _) ?_; intro v' w' hown' hb' _)
          go_roundw
          case rel => exact ⟨k + 1, by omega, by go_num, by rw [← hnext.out, hlo.out]; exact hown', hb'⟩
          case measure => simp [intOf]; omega
    · obtain rfl : k = s.size := by omega
      have hall : Hid (((lowL (ls s)).take s.size) = lowL (ls s)) := by
        show _ = _
        rw [List.take_of_length_le (by rw [lowL_length, ls_length]; exact Nat.le_refl _)]
      rw [hall.out] at hown
      have hconv := str_owned wr _ _ _ _ hown
      go_wp2
      go_ret
      exact ⟨rfl, hb⟩
end

section
open Go.RowKit Go.Shelf
end

section
open Go.RowKit Go.Shelf
theorem bef_take (p : UInt8 → Bool) (l : List UInt8) : l.take (befL p l).length = befL p l := by
  have := congrArg (List.take (befL p l).length) (bef_from p l)
  rw [List.take_left] at this
  exact this.symm
theorem from_drop (p : UInt8 → Bool) (l : List UInt8) : l.drop (befL p l).length = fromL p l := by
  have := congrArg (List.drop (befL p l).length) (bef_from p l)
  rw [List.drop_left] at this
  exact this.symm
/-! ### the host and the port of an address -/
/-! ### the user's end -/
/-! ### the port -/
/-! ### cells set one by one -/
end

section
open Go.RowKit
end

section
open Go.RowKit
theorem wpAny_tail {P : Program} {md : Region.Mode} {ops : Array Oper} {Q' : Exit → Act → World → Prop} {listed : Array Bool} {a : Act} {w : World} {n : Nat} (k : Nat) (hn : k + n = ops.size) (hB : Region.seqB md ops n k listed = true)
    (h : wpList P ops Q' (ops.toList.drop k) a w) : wpAny P md ops Q' n listed a w := by
  have hl : (ops.toList.drop k).length = n := by simp; omega
  have := wpAny_of_seq (ops.toList.drop k) k listed a w (fun j => by simp) (by rw [hl]; exact hB) h
  rwa [hl] at this
end

section
open Go.RowKit
set_option maxHeartbeats 400000 in
theorem mod_any (a n : Int) (hn : 0 < n) (hn2 : n ≤ 2000000000) (_ha0 : -9223372036854775808 ≤ a) (_ha1 : a ≤ 9223372036854775807) (w : World) :
    Calls Tryz.prog 28 #[.int .i64 a, .int .i64 n] w fun e w' => e = .returned (.int .i64 (a % n)) ∧ w = w' := by
  have hne : n ≠ 0 := by omega
  have h1 := Int.emod_nonneg a hne
  have h2 := Int.emod_lt_of_pos a hn
  have ht : Int.tmod a n = if 0 ≤ a ∨ n ∣ a then a % n else a % n - n := by
    rw [Int.tmod_eq_emod]
    split
    · simp
    · rw [Int.natAbs_of_nonneg (by omega)]
  by_cases hneg : Int.tmod a n < 0
  · have hv : Hid (Int.tmod a n + n = a % n) := by
      show _ = _
      rw [ht] at hneg ⊢
      split at hneg
      · omega
      · rename_i h; rw [if_neg h]; omega
    have hlo : -n < Int.tmod a n := by have := hv.out; omega
    have hw : wrap64 (Int.tmod a n + n) = Int.tmod a n + n := by unfold wrap64; omega
    clear ht
    go_enter Tryz.func28, Tryz.ntmps28
    go_wp2
    go_ret
    exact ⟨ret_int hv.out, rfl⟩
  · have hv : Hid (Int.tmod a n = a % n) := by
      show _ = _
      rw [ht] at hneg ⊢
      split at hneg
      · rename_i h; rw [if_pos h]
      · omega
    clear ht
    go_enter Tryz.func28, Tryz.ntmps28
    go_wp2
    go_ret
    exact ⟨ret_int hv.out, rfl⟩
end

section
open Go.RowKit Go.Shelf
theorem wf_i64c {v : Int} (h : (Lit.int .i64 v).wf = true) : -9223372036854775808 ≤ v ∧ v ≤ 9223372036854775807 := by
  have h1 : IntKind.i64.min = -9223372036854775808 := rfl
  have h2 : IntKind.i64.max = 9223372036854775807 := rfl
  simp [Lit.wf, h1, h2] at h
  exact h
/-- The facts of the four strings. -/
theorem wf_u8 {b : Int} (h : (Lit.int .u8 b).wf = true) : 0 ≤ b ∧ b < 256 := by
  have h1 : IntKind.u8.min = 0 := rfl
  have h2 : IntKind.u8.max = 255 := rfl
  simp [Lit.wf, h1, h2] at h
  omega
theorem step_alloc_url {ops : Array Oper} {o : Oper} {a : Act} {w : World} {Q : Exit → Act → World → Prop} {K : Act → World → Prop} {E : Prop} (hg : o.guard = none) (hop : o.op = .alloc 29)
    (h : ∀ w' g, w.heap.size ≤ g → g < w'.heap.size → RowU w' g uz → w.grownBy w' none → K (a.put o.dst (.pointer (some ⟨g, 0, none⟩))) w') : if Region.wanted o (yielded ops a.tmps) = true then Oper.wp Tryz.prog o a w K Q else E := by
  have hw : Region.wanted o (yielded ops a.tmps) = true := by simp [Region.wanted, hg]
  rw [if_pos hw]
  have := h (w.alloc (.cells uz 29)) w.heap.size (Nat.le_refl _) (by simp) (row_new w _ _) (World.grownBy_alloc w _ _)
  unfold Oper.wp
  simp [execOp, hop, Instr.alloc, newVar, newRow, Result.andThen, Value.cells, Oper.upon]
  exact this
theorem low_text (s : ByteArray) : ls (lowS (s.extract 0 (befL (isB 58) (ls s)).length) ++ s.extract (befL (isB 58) (ls s)).length s.size) = lowL (befL (isB 58) (ls s)) ++ fromL (isB 58) (ls s) := by
  rw [ls_append, ls_from9, from_drop]
  show lowL (ls (s.extract 0 _)) ++ _ = _
  rw [ls_extract, List.drop_zero, Nat.sub_zero, bef_take]
theorem ctl_text (s : ByteArray) (m : Nat) (c : UInt8) (hc : exclB c = true) (hs : s.size ≤ 1000) : parseUL (ls (s.extract 0 m ++ bs [c] ++ s.extract m s.size)) = (4, uv0) := by
  have e : ls (s.extract 0 m ++ bs [c] ++ s.extract m s.size) = (ls s).take m ++ [c] ++ (ls s).drop m := by
    rw [ls_append, ls_append, ls_from9, ls_bs, ls_extract, List.drop_zero, Nat.sub_zero]
  have hl : ((ls s).take m ++ [c] ++ (ls s).drop m).length ≤ 1001 := by
    simp only [List.length_append, List.length_take, List.length_drop, List.length_singleton, ls_length]
    omega
  rw [e]
  unfold parseUL
  rw [if_neg (by omega)]
  unfold parseU
  rw [if_pos]
  rw [List.any_append, List.any_append]
  simp [hc]
set_option maxRecDepth 20000 in
set_option maxHeartbeats 8000000 in
theorem walkUrCase (hPar : HoPar 86) (hF : HoFmt 65) (s : ByteArray) (a b : Int) (w : World) (hsz : s.size ≤ maxLen) (ha : (Lit.int .i64 a).wf = true) (hb : (Lit.int .u8 b).wf = true) (hw : Uw w) :
    Calls Tryz.prog 6 #[.string s, .int .i64 a, .int .u8 b] w (Yes w) := by
  have ha := wf_i64c ha
  have hb := wf_u8 hb
  have cw := fun W hW => awake15_any hPar hF W hW
  unfold Yes at cw
  by_cases h1 : 1000 < s.size
  · have hd : decide ((1000 : Int) < (s.size : Int)) = true := decide_eq_true (by omega)
    have HW := Lib.hid hw
    clear h1 hw
    go_enter Tryz.func6, Tryz.ntmps6
    go_wp2_with (go_at_call 11; refine (cw _ HW.out).mono ?_; rintro e w1 ⟨rfl, hb⟩)
    go_ret
    exact ⟨rfl, hb⟩
  · have hd : decide ((1000 : Int) < (s.size : Int)) = false := decide_eq_false (by omega)
    have c1 := fun W hW => Parse_any hPar s W hsz hW
    have hlt := low_text s
    have hbl := bef_len (isB 58) (ls s)
    rw [ls_length] at hbl
    obtain ⟨k, hk⟩ : ∃ k, k = (befL (isB 58) (ls s)).length := ⟨_, rfl⟩
    rw [← hk] at hlt hbl
    obtain ⟨X, hX⟩ : ∃ X, s.extract 0 k = X := ⟨_, rfl⟩
    obtain ⟨Y, hY⟩ : ∃ Y, s.extract k s.size = Y := ⟨_, rfl⟩
    obtain ⟨T2, hT2⟩ : ∃ T, lowS X ++ Y = T := ⟨_, rfl⟩
    rw [hX, hY, hT2] at hlt
    have hpl : parseUL (ls T2) = parseUL (ls s) := by
      have e : (ls T2).length = (ls s).length := by
        rw [hlt, List.length_append, low_len, ← List.length_append, bef_from]
      unfold parseUL
      rw [e, hlt, parse_low]
    have hT2s : T2.size ≤ 1000 := by
      rw [← ls_length, hlt, List.length_append, low_len, ← List.length_append, bef_from, ls_length]
      omega
    have c2 := fun W hW => Parse_any hPar T2 W (by unfold maxLen; omega) hW
    rw [hpl] at c2
    unfold UrlPost at c1 c2
    have hwf := (parseUL_sm (ls s)).wf
    have hC := uc_facts (parseUL (ls s)).2
    have hNU := fun W => neq_of_eql (eq_url (parseUL (ls s)).2 (parseUL (ls s)).2 hwf hwf W)
    rw [eqU_self] at hNU
    simp only [Bool.not_true] at hNU
    generalize (parseUL (ls s)).2.cells = C at *
    generalize (parseUL (ls s)).1 = n1 at *
    have zX : X.size ≤ 1000 := by rw [← hX, ← ls_length, ls_extract, List.length_take, List.length_drop, ls_length]; omega
    have zY : Y.size ≤ 1000 := by rw [← hY, ← ls_length, ls_from9, List.length_drop, ls_length]; omega
    have cL := fun W => refLower_any X W (by omega)
    have zL : (lowS X).size ≤ 1000 := by show (bs (lowL (ls X))).size ≤ _; rw [bs_size, low_len, ls_length]; exact zX
    generalize lowS X = LX at *
    have hs1 : ¬ (9223372036854775807 < LX.size + Y.size) := by omega
    have hm := Int.emod_nonneg a (show (s.size : Int) + 1 ≠ 0 by omega)
    have hm2 := Int.emod_lt_of_pos a (show 0 < (s.size : Int) + 1 by omega)
    have cM := fun W => mod_any a ((s.size : Int) + 1) (by omega) (by omega) ha.1 ha.2 W
    obtain ⟨m, hme⟩ : ∃ m : Nat, a % ((s.size : Int) + 1) = (m : Int) := ⟨(a % ((s.size : Int) + 1)).toNat, by omega⟩
    simp only [hme] at cM
    have hm3 : m ≤ s.size := by omega
    obtain ⟨c, hc⟩ : ∃ c : UInt8, (c.toNat : Int) = b % 33 := ⟨UInt8.ofNat (b % 33).toNat, by rw [UInt8.toNat_ofNat']; omega⟩
    have hb2 : b.tmod 33 = (c.toNat : Int) := by rw [Int.tmod_eq_emod_of_nonneg hb.1, hc]
    have hce : exclB c = true := by
      unfold exclB
      rw [decide_eq_true (by omega)]
      rfl
    have hctl := ctl_text s m c hce (by omega)
    obtain ⟨X3, hX3⟩ : ∃ X, s.extract 0 m = X := ⟨_, rfl⟩
    obtain ⟨Y3, hY3⟩ : ∃ Y, s.extract m s.size = Y := ⟨_, rfl⟩
    obtain ⟨T3, hT3⟩ : ∃ T, X3 ++ bs [c] ++ Y3 = T := ⟨_, rfl⟩
    have zX3 : X3.size ≤ 1000 := by rw [← hX3, ← ls_length, ls_extract, List.length_take, List.length_drop, ls_length]; omega
    have zY3 : Y3.size ≤ 1000 := by rw [← hY3, ← ls_length, ls_from9, List.length_drop, ls_length]; omega
    have z1 : (bs [c]).size = 1 := bs_size _
    have z2 : (X3 ++ bs [c]).size ≤ 1001 := by rw [ByteArray.size_append]; omega
    rw [hX3, hY3, hT3] at hctl
    have hT3s : T3.size ≤ 2001 := by rw [← hT3, ByteArray.size_append]; omega
    have hs2 : ¬ (9223372036854775807 < X3.size + (bs [c]).size) := by omega
    have hs3 : ¬ (9223372036854775807 < (X3 ++ bs [c]).size + Y3.size) := by omega
    have hs4 : X3.size + (bs [c]).size + Y3.size ≤ 9223372036854775807 := by omega
    have c3 := fun W hW => Parse_any hPar T3 W (by unfold maxLen; omega) hW
    rw [hctl] at c3
    unfold UrlPost at c3
    have hZ := urv_size uv0
    have hZ1 := urv_one uv0
    simp only at c3
    generalize uv0.cells = Z at *
    have g1 : (k : Int) ≤ (s.size : Int) := by omega
    have g2 : k ≤ s.size := hbl.1
    have g3 : (m : Int) ≤ (s.size : Int) := by omega
    have zs : s.size ≤ 1000 := by omega
    have HK := Lib.hid hk
    have HW := Lib.hid hw
    clear hlt hbl hk hpl hwf hm hm2 hme hc hce hctl h1 hw hT3s hT2s zL z1 z2
    go_enter Tryz.func6, Tryz.ntmps6
    go_upto_block 0 with fail
    go_cut [7] from 19 to 30 (fun v wx => w = wx ∧ v = .int .i64 (k : Nat))
    case first =>
      go_wp2_with fail
      go_loop [7] (fun i => ∃ n : Nat, n ≤ s.size ∧ i = .int .i64 (n : Nat) ∧ Hid (∀ b ∈ (ls s).take n, isB 58 b = false)) (fun i => s.size - (intOf i).toNat)
      case atStart => exact ⟨0, Nat.zero_le _, rfl, Lib.hid (fun b hb => by simp at hb)⟩
      case round =>
        obtain ⟨n, hn, rfl, HN⟩ := hrel
        by_cases hlt : n < s.size
        · by_cases h58 : s[n]'hlt = 58
          · have hq : (((s[n]'hlt).toNat : Int) == 58) = true := by rw [h58]; rfl
            have hq2 : (((s[n]'hlt).toNat : Int) != 58) = false := by rw [bne, hq]; rfl
            have HF : Hid (n = k) := Lib.hid (by rw [HK.out]; exact (idx_hit hlt HN.out (by rw [h58]; rfl)).symm)
            clear h58
            go_wp2
            go_meet
            exact ⟨rfl, by rw [HF.out]⟩
          · have hq : (((s[n]'hlt).toNat : Int) == 58) = false := byte_ne (c := 58) h58
            have hq2 : (((s[n]'hlt).toNat : Int) != 58) = true := by rw [bne, hq]; rfl
            have HN2 : Hid (∀ b ∈ (ls s).take (n + 1), isB 58 b = false) := Lib.hid (idx_more hlt HN.out (by simpa [isB] using h58))
            clear h58
            go_wp2
            go_round
            case rel => exact ⟨n + 1, by omega, by go_num, HN2⟩
            case measure => simp [intOf]; omega
        · obtain rfl : n = s.size := by omega
          have HF : Hid (s.size = k) := Lib.hid (by rw [HK.out]; exact (idx_none HN.out).symm)
          go_wp2
          go_meet
          exact ⟨rfl, by rw [HF.out]⟩
    case rest =>
    obtain ⟨rfl, rfl⟩ := hcut
    go_upto_region 6 with fail
    go_wp2_with fail
    refine (c1 _ HW.out).mono ?_
    rintro e w1 ⟨rfl, hbw⟩
    go_upto_region 7 with (first
      | (refine wpList_alloc_arr _ rfl 8 rfl _ rfl uz zeroUrl ?_
         intro W3 g8 hg8a hg8b hRg8 hGg8
         have hg8 : w.heap.size ≤ g8 := by have := hbw.size; omega
         replace hbw := below_row0 hbw hGg8 (Nat.le_refl _))
      | (refine wpList_store_url rfl rfl _ _ rfl g8 (by exact rfl) C (by exact rfl) uz hRg8 rfl hC.sz hC.one ?_
         intro w4 hrg8 hSg8
         replace hbw := below_row hbw hSg8 (Nat.le_refl _) hg8))
    go_simp
    clear hGg8 hRg8 hSg8
    go_cut [10, 11] from 36 to 47 (fun p e wx => ∃ g10, p = .pointer (some ⟨g10, 0, none⟩) ∧ e = .int .i64 (n1 : Nat) ∧ RowU wx g8 C ∧ RowU wx g10 C ∧ Below w.heap.size w wx)
    case first =>
      refine wp_region_any (by kernel_rfl) ?_
      change wpAny _ _ _ _ _ _ _ (World.drew _)
      replace hrg8 : RowU w4.drew g8 C := hrg8
      replace hbw := hbw.drew
      generalize w4.drew = wd at *
      refine wpAny_take (i := 0) (v := .string s) rfl (by kernel_rfl) (by kernel_rfl) (by kernel_rfl) (fun _ _ _ h => h) (Or.inl ⟨by rfl, by intro w; go_simp; try with_reducible rfl⟩) ?_
      refine wpAny_take (i := 1) (v := .int .i64 (k : Nat)) rfl (by kernel_rfl) (by kernel_rfl) (by kernel_rfl) (fun _ _ _ h => h) (Or.inl ⟨by rfl, by intro w; go_simp; try with_reducible rfl⟩) ?_
      refine wpAny_take (i := 2) (v := .string X) rfl (by kernel_rfl) (by kernel_rfl) (by kernel_rfl) (fun _ _ _ h => h) (Or.inl ⟨by rfl, by intro w; go_simp; try with_reducible rfl⟩) ?_
      refine wpAny_take (i := 4) (v := .string s) rfl (by kernel_rfl) (by kernel_rfl) (by kernel_rfl) (fun _ _ _ h => h) (Or.inl ⟨by rfl, by intro w; go_simp; try with_reducible rfl⟩) ?_
      refine wpAny_take (i := 5) (v := .int .i64 (k : Nat)) rfl (by kernel_rfl) (by kernel_rfl) (by kernel_rfl) (fun _ _ _ h => h) (Or.inl ⟨by rfl, by intro w; go_simp; try with_reducible rfl⟩) ?_
      refine wpAny_take (i := 6) (v := .string Y) rfl (by kernel_rfl) (by kernel_rfl) (by kernel_rfl) (fun _ _ _ h => h) (Or.inl ⟨by rfl, by intro w; go_simp; try with_reducible rfl⟩) ?_
      refine wpAny_ready (rs := [3, 12]) (by kernel_rfl) (by simp) ?_
      refine AllReady.cons rfl (fun K hK => ?_) (AllReady.cons rfl (fun K hK => ?_) AllReady.nil)
      · go_simp
        refine (cL _).mono ?_
        rintro e w5 ⟨rfl, hb5⟩
        replace hrg8 : RowU w5 g8 C := Row.below hrg8 hb5 (Row.lt hrg8)
        replace hbw := hbw.trans (hb5.mono hbw.size)
        clear hb5
        refine hK _ _ ?_
        clear hK K
        refine wpAny_take (i := 7) (v := .string T2) rfl (by kernel_rfl) (by kernel_rfl) (by kernel_rfl) (fun _ _ _ h => h) (Or.inl ⟨by rfl, by intro w; go_simp; try with_reducible rfl⟩) ?_
        refine wpAny_ready (rs := [8, 12]) (by kernel_rfl) (by simp) ?_
        refine AllReady.cons rfl (fun K hK => ?_) (AllReady.cons rfl (fun K hK => ?_) AllReady.nil)
        · go_simp
          refine (c2 _ (uw_below HW.out hbw)).mono ?_
          rintro e w6 ⟨rfl, hb6⟩
          replace hrg8 : RowU w6 g8 C := Row.below hrg8 hb6 (Row.lt hrg8)
          replace hbw := hbw.trans (hb6.mono hbw.size)
          clear hb6
          refine hK _ _ ?_
          clear hK K
          refine wpAny_take (i := 9) (v := .tuple #[.agg C, .int .i64 (n1 : Nat)]) rfl (by kernel_rfl) (by kernel_rfl) (by kernel_rfl) (fun _ _ _ h => h) (Or.inl ⟨by rfl, by intro w; go_simp; try with_reducible rfl⟩) ?_
          refine wpAny_take (i := 10) (v := .agg C) rfl (by kernel_rfl) (by kernel_rfl) (by kernel_rfl) (fun _ _ _ h => h) (Or.inl ⟨by rfl, by intro w; go_simp; try with_reducible rfl⟩) ?_
          refine wpAny_take (i := 11) (v := .int .i64 (n1 : Nat)) rfl (by kernel_rfl) (by kernel_rfl) (by kernel_rfl) (fun _ _ _ h => h) (Or.inl ⟨by rfl, by intro w; go_simp; try with_reducible rfl⟩) ?_
          refine wpAny_ready (rs := [12]) (by kernel_rfl) (by simp) ?_
          refine AllReady.cons rfl (fun K hK => ?_) AllReady.nil
          refine step_alloc_url rfl rfl (fun W7 g10 hga hgb hrg10 hG => ?_)
          have hne : g8 ≠ g10 := by have := Row.lt hrg8; omega
          have hle : w.heap.size ≤ g10 := by have := hbw.size; omega
          replace hrg8 : RowU W7 g8 C := Row.grown0 hrg8 hG
          replace hbw := below_row0 hbw hG (Nat.le_refl _)
          clear hG hga hgb
          refine hK _ _ ?_
          clear hK K
          refine wpAny_tail 13 rfl (by kernel_rfl) ?_
          simp only [List.drop_succ_cons, List.drop_zero]
          go_simp
          go_wp2_with (refine wpList_store_url rfl rfl _ _ rfl g10 (by exact rfl) C (by exact rfl) uz hrg10 rfl hC.sz hC.one ?_
                       intro w8 hr10 hS
                       replace hrg8 : RowU w8 g8 C := Row.grown hrg8 hS hne
                       replace hbw := below_row hbw hS (Nat.le_refl _) hle)
          go_meet
          exact ⟨g10, rfl, rfl, hrg8, hr10, hbw⟩
        · refine step_alloc_url rfl rfl (fun W7 g10 hga hgb hrg10 hG => ?_)
          have hne : g8 ≠ g10 := by have := Row.lt hrg8; omega
          have hle : w.heap.size ≤ g10 := by have := hbw.size; omega
          replace hrg8 : RowU W7 g8 C := Row.grown0 hrg8 hG
          replace hbw := below_row0 hbw hG (Nat.le_refl _)
          clear hG hga hgb
          refine hK _ _ ?_
          clear hK K
          refine wpAny_ready (rs := [8]) (by kernel_rfl) (by simp) ?_
          refine AllReady.cons rfl (fun K hK => ?_) AllReady.nil
          go_simp
          refine (c2 _ (uw_below HW.out hbw)).mono ?_
          rintro e w6 ⟨rfl, hb6⟩
          replace hrg8 : RowU w6 g8 C := Row.below hrg8 hb6 (Row.lt hrg8)
          replace hrg10 : RowU w6 g10 uz := Row.below hrg10 hb6 (Row.lt hrg10)
          replace hbw := hbw.trans (hb6.mono hbw.size)
          clear hb6
          refine hK _ _ ?_
          clear hK K
          refine wpAny_take (i := 9) (v := .tuple #[.agg C, .int .i64 (n1 : Nat)]) rfl (by kernel_rfl) (by kernel_rfl) (by kernel_rfl) (fun _ _ _ h => h) (Or.inl ⟨by rfl, by intro w; go_simp; try with_reducible rfl⟩) ?_
          refine wpAny_take (i := 10) (v := .agg C) rfl (by kernel_rfl) (by kernel_rfl) (by kernel_rfl) (fun _ _ _ h => h) (Or.inl ⟨by rfl, by intro w; go_simp; try with_reducible rfl⟩) ?_
          refine wpAny_take (i := 11) (v := .int .i64 (n1 : Nat)) rfl (by kernel_rfl) (by kernel_rfl) (by kernel_rfl) (fun _ _ _ h => h) (Or.inl ⟨by rfl, by intro w; go_simp; try with_reducible rfl⟩) ?_
          refine wpAny_tail 13 rfl (by kernel_rfl) ?_
          simp only [List.drop_succ_cons, List.drop_zero]
          go_simp
          go_wp2_with (refine wpList_store_url rfl rfl _ _ rfl g10 (by exact rfl) C (by exact rfl) uz hrg10 rfl hC.sz hC.one ?_
                       intro w8 hr10 hS
                       replace hrg8 : RowU w8 g8 C := Row.grown hrg8 hS hne
                       replace hbw := below_row hbw hS (Nat.le_refl _) hle)
          go_meet
          exact ⟨g10, rfl, rfl, hrg8, hr10, hbw⟩
      · refine step_alloc_url rfl rfl (fun W7 g10 hga hgb hrg10 hG => ?_)
        have hne : g8 ≠ g10 := by have := Row.lt hrg8; omega
        have hle : w.heap.size ≤ g10 := by have := hbw.size; omega
        replace hrg8 : RowU W7 g8 C := Row.grown0 hrg8 hG
        replace hbw := below_row0 hbw hG (Nat.le_refl _)
        clear hG hga hgb
        refine hK _ _ ?_
        clear hK K
        refine wpAny_ready (rs := [3]) (by kernel_rfl) (by simp) ?_
        refine AllReady.cons rfl (fun K hK => ?_) AllReady.nil
        go_simp
        refine (cL _).mono ?_
        rintro e w5 ⟨rfl, hb5⟩
        replace hrg8 : RowU w5 g8 C := Row.below hrg8 hb5 (Row.lt hrg8)
        replace hrg10 : RowU w5 g10 uz := Row.below hrg10 hb5 (Row.lt hrg10)
        replace hbw := hbw.trans (hb5.mono hbw.size)
        clear hb5
        refine hK _ _ ?_
        clear hK K
        refine wpAny_take (i := 7) (v := .string T2) rfl (by kernel_rfl) (by kernel_rfl) (by kernel_rfl) (fun _ _ _ h => h) (Or.inl ⟨by rfl, by intro w; go_simp; try with_reducible rfl⟩) ?_
        refine wpAny_ready (rs := [8]) (by kernel_rfl) (by simp) ?_
        refine AllReady.cons rfl (fun K hK => ?_) AllReady.nil
        go_simp
        refine (c2 _ (uw_below HW.out hbw)).mono ?_
        rintro e w6 ⟨rfl, hb6⟩
        replace hrg8 : RowU w6 g8 C := Row.below hrg8 hb6 (Row.lt hrg8)
        replace hrg10 : RowU w6 g10 uz := Row.below hrg10 hb6 (Row.lt hrg10)
        replace hbw := hbw.trans (hb6.mono hbw.size)
        clear hb6
        refine hK _ _ ?_
        clear hK K
        refine wpAny_take (i := 9) (v := .tuple #[.agg C, .int .i64 (n1 : Nat)]) rfl (by kernel_rfl) (by kernel_rfl) (by kernel_rfl) (fun _ _ _ h => h) (Or.inl ⟨by rfl, by intro w; go_simp; try with_reducible rfl⟩) ?_
        refine wpAny_take (i := 10) (v := .agg C) rfl (by kernel_rfl) (by kernel_rfl) (by kernel_rfl) (fun _ _ _ h => h) (Or.inl ⟨by rfl, by intro w; go_simp; try with_reducible rfl⟩) ?_
        refine wpAny_take (i := 11) (v := .int .i64 (n1 : Nat)) rfl (by kernel_rfl) (by kernel_rfl) (by kernel_rfl) (fun _ _ _ h => h) (Or.inl ⟨by rfl, by intro w; go_simp; try with_reducible rfl⟩) ?_
        refine wpAny_tail 13 rfl (by kernel_rfl) ?_
        simp only [List.drop_succ_cons, List.drop_zero]
        go_simp
        go_wp2_with (refine wpList_store_url rfl rfl _ _ rfl g10 (by exact rfl) C (by exact rfl) uz hrg10 rfl hC.sz hC.one ?_
                     intro w8 hr10 hS
                     replace hrg8 : RowU w8 g8 C := Row.grown hrg8 hS hne
                     replace hbw := below_row hbw hS (Nat.le_refl _) hle)
        go_meet
        exact ⟨g10, rfl, rfl, hrg8, hr10, hbw⟩
    case rest =>
    clear hrg8 hbw
    obtain ⟨g10, rfl, rfl, hrg8, hrg10, hbw⟩ := hcut
    go_upto_region 10 with (first
      | (refine wpList_load_url (by rfl) _ rfl g8 (by exact rfl) C hrg8 hC.sz ?_)
      | (refine wpList_load_url (by rfl) _ rfl g10 (by exact rfl) C hrg10 hC.sz ?_))
    clear hrg8 hrg10
    go_upto_region 11 with (go_at_call 28; refine (cM _).mono ?_; rintro e w9 ⟨rfl, rfl⟩)
    go_cut [14] from 13 to 76 (fun e wx => e = .int .i64 4 ∧ Below w.heap.size w wx)
    case first =>
      refine wp_region_any (by kernel_rfl) ?_
      change wpAny _ _ _ _ _ _ _ (World.drew _)
      replace hbw := hbw.drew
      generalize World.drew _ = wd2 at *
      refine wpAny_take (i := 0) (v := .string s) rfl (by kernel_rfl) (by kernel_rfl) (by kernel_rfl) (fun _ _ _ h => h) (Or.inl ⟨by rfl, by intro w; go_simp; try with_reducible rfl⟩) ?_
      refine wpAny_take (i := 1) (v := .int .i64 (m : Nat)) rfl (by kernel_rfl) (by kernel_rfl) (by kernel_rfl) (fun _ _ _ h => h) (Or.inl ⟨by rfl, by intro w; go_simp; try with_reducible rfl⟩) ?_
      refine wpAny_take (i := 2) (v := .string X3) rfl (by kernel_rfl) (by kernel_rfl) (by kernel_rfl) (fun _ _ _ h => h) (Or.inl ⟨by rfl, by intro w; go_simp; try with_reducible rfl⟩) ?_
      refine wpAny_take (i := 3) (v := .int .u8 b) rfl (by kernel_rfl) (by kernel_rfl) (by kernel_rfl) (fun _ _ _ h => h) (Or.inl ⟨by rfl, by intro w; go_simp; try with_reducible rfl⟩) ?_
      refine wpAny_take (i := 4) (v := .int .u8 (c.toNat : Int)) rfl (by kernel_rfl) (by kernel_rfl) (by kernel_rfl) (fun _ _ _ h => h) (Or.inl ⟨by rfl, by intro w; go_simp; try with_reducible rfl⟩) ?_
      refine wpAny_take (i := 8) (v := .string s) rfl (by kernel_rfl) (by kernel_rfl) (by kernel_rfl) (fun _ _ _ h => h) (Or.inl ⟨by rfl, by intro w; go_simp; try with_reducible rfl⟩) ?_
      refine wpAny_take (i := 9) (v := .int .i64 (m : Nat)) rfl (by kernel_rfl) (by kernel_rfl) (by kernel_rfl) (fun _ _ _ h => h) (Or.inl ⟨by rfl, by intro w; go_simp; try with_reducible rfl⟩) ?_
      refine wpAny_take (i := 10) (v := .string Y3) rfl (by kernel_rfl) (by kernel_rfl) (by kernel_rfl) (fun _ _ _ h => h) (Or.inl ⟨by rfl, by intro w; go_simp; try with_reducible rfl⟩) ?_
      refine wpAny_ready (rs := [5, 16]) (by kernel_rfl) (by simp) ?_
      refine AllReady.cons rfl (fun K hK => ?_) (AllReady.cons rfl (fun K hK => ?_) AllReady.nil)
      · go_simp
        refine hK _ _ ?_
        clear hK K
        have hrow : Row (wd2.alloc (.cells #[.int .u8 (c.toNat : Int)] 5)) wd2.heap.size 5 #[.int .u8 (c.toNat : Int)] := row_new _ _ _
        replace hbw := hbw.alloc hbw.size (.cells #[.int .u8 (c.toNat : Int)] 5)
        generalize wd2.alloc (.cells #[.int .u8 (c.toNat : Int)] 5) = w5 at *
        generalize wd2.heap.size = bB at *
        refine wpAny_ready (rs := [6, 16]) (by kernel_rfl) (by simp) ?_
        refine AllReady.cons rfl (fun K hK => ?_) (AllReady.cons rfl (fun K hK => ?_) AllReady.nil)
        · have hcv := str_one w5 bB (c.toNat : Int) c rfl (Row.at9 hrow rfl)
          go_simp
          refine hK _ _ ?_
          clear hK K hcv hrow
          refine wpAny_take (i := 7) (v := .string (X3 ++ bs [c])) rfl (by kernel_rfl) (by kernel_rfl) (by kernel_rfl) (fun _ _ _ h => h) (Or.inl ⟨by rfl, by intro w; go_simp; try with_reducible rfl⟩) ?_
          refine wpAny_take (i := 11) (v := .string T3) rfl (by kernel_rfl) (by kernel_rfl) (by kernel_rfl) (fun _ _ _ h => h) (Or.inl ⟨by rfl, by intro w; go_simp; try with_reducible rfl⟩) ?_
          refine wpAny_ready (rs := [12, 16]) (by kernel_rfl) (by simp) ?_
          refine AllReady.cons rfl (fun K hK => ?_) (AllReady.cons rfl (fun K hK => ?_) AllReady.nil)
          · go_simp
            refine (c3 _ (uw_below HW.out hbw)).mono ?_
            rintro e w10 ⟨rfl, hb10⟩
            skip
            replace hbw := hbw.trans (hb10.mono hbw.size)
            clear hb10
            refine hK _ _ ?_
            clear hK K
            refine wpAny_take (i := 13) (v := .tuple #[.agg Z, .int .i64 4]) rfl (by kernel_rfl) (by kernel_rfl) (by kernel_rfl) (fun _ _ _ h => h) (Or.inl ⟨by rfl, by intro w; go_simp; try with_reducible rfl⟩) ?_
            refine wpAny_take (i := 14) (v := .agg Z) rfl (by kernel_rfl) (by kernel_rfl) (by kernel_rfl) (fun _ _ _ h => h) (Or.inl ⟨by rfl, by intro w; go_simp; try with_reducible rfl⟩) ?_
            refine wpAny_take (i := 15) (v := .int .i64 4) rfl (by kernel_rfl) (by kernel_rfl) (by kernel_rfl) (fun _ _ _ h => h) (Or.inl ⟨by rfl, by intro w; go_simp; try with_reducible rfl⟩) ?_
            refine wpAny_ready (rs := [16]) (by kernel_rfl) (by simp) ?_
            refine AllReady.cons rfl (fun K hK => ?_) AllReady.nil
            refine step_alloc_url rfl rfl (fun W7 g13 hga hgb hrg13 hG => ?_)
            have hle : w.heap.size ≤ g13 := by have := hbw.size; omega
            try replace hrow := Row.grown0 hrow hG
            replace hbw := below_row0 hbw hG (Nat.le_refl _)
            clear hG hga hgb
            refine hK _ _ ?_
            clear hK K
            refine wpAny_tail 17 rfl (by kernel_rfl) ?_
            simp only [List.drop_succ_cons, List.drop_zero]
            go_simp
            go_wp2_with (refine wpList_store_url rfl rfl _ _ rfl g13 (by exact rfl) Z (by exact rfl) uz hrg13 rfl hZ hZ1 ?_
                         intro w8 hr13 hS
                         replace hbw := below_row hbw hS (Nat.le_refl _) hle)
            go_meet
            exact ⟨rfl, hbw⟩
          · refine step_alloc_url rfl rfl (fun W7 g13 hga hgb hrg13 hG => ?_)
            have hle : w.heap.size ≤ g13 := by have := hbw.size; omega
            try replace hrow := Row.grown0 hrow hG
            replace hbw := below_row0 hbw hG (Nat.le_refl _)
            clear hG hga hgb
            refine hK _ _ ?_
            clear hK K
            refine wpAny_ready (rs := [12]) (by kernel_rfl) (by simp) ?_
            refine AllReady.cons rfl (fun K hK => ?_) AllReady.nil
            go_simp
            refine (c3 _ (uw_below HW.out hbw)).mono ?_
            rintro e w10 ⟨rfl, hb10⟩
            replace hrg13 : RowU w10 g13 uz := Row.below hrg13 hb10 (Row.lt hrg13)
            replace hbw := hbw.trans (hb10.mono hbw.size)
            clear hb10
            refine hK _ _ ?_
            clear hK K
            refine wpAny_take (i := 13) (v := .tuple #[.agg Z, .int .i64 4]) rfl (by kernel_rfl) (by kernel_rfl) (by kernel_rfl) (fun _ _ _ h => h) (Or.inl ⟨by rfl, by intro w; go_simp; try with_reducible rfl⟩) ?_
            refine wpAny_take (i := 14) (v := .agg Z) rfl (by kernel_rfl) (by kernel_rfl) (by kernel_rfl) (fun _ _ _ h => h) (Or.inl ⟨by rfl, by intro w; go_simp; try with_reducible rfl⟩) ?_
            refine wpAny_take (i := 15) (v := .int .i64 4) rfl (by kernel_rfl) (by kernel_rfl) (by kernel_rfl) (fun _ _ _ h => h) (Or.inl ⟨by rfl, by intro w; go_simp; try with_reducible rfl⟩) ?_
            refine wpAny_tail 17 rfl (by kernel_rfl) ?_
            simp only [List.drop_succ_cons, List.drop_zero]
            go_simp
            go_wp2_with (refine wpList_store_url rfl rfl _ _ rfl g13 (by exact rfl) Z (by exact rfl) uz hrg13 rfl hZ hZ1 ?_
                         intro w8 hr13 hS
                         replace hbw := below_row hbw hS (Nat.le_refl _) hle)
            go_meet
            exact ⟨rfl, hbw⟩
        · refine step_alloc_url rfl rfl (fun W7 g13 hga hgb hrg13 hG => ?_)
          have hle : w.heap.size ≤ g13 := by have := hbw.size; omega
          try replace hrow := Row.grown0 hrow hG
          replace hbw := below_row0 hbw hG (Nat.le_refl _)
          clear hG hga hgb
          refine hK _ _ ?_
          clear hK K
          refine wpAny_ready (rs := [6]) (by kernel_rfl) (by simp) ?_
          refine AllReady.cons rfl (fun K hK => ?_) AllReady.nil
          have hcv := str_one W7 bB (c.toNat : Int) c rfl (Row.at9 hrow rfl)
          go_simp
          refine hK _ _ ?_
          clear hK K hcv hrow
          refine wpAny_take (i := 7) (v := .string (X3 ++ bs [c])) rfl (by kernel_rfl) (by kernel_rfl) (by kernel_rfl) (fun _ _ _ h => h) (Or.inl ⟨by rfl, by intro w; go_simp; try with_reducible rfl⟩) ?_
          refine wpAny_take (i := 11) (v := .string T3) rfl (by kernel_rfl) (by kernel_rfl) (by kernel_rfl) (fun _ _ _ h => h) (Or.inl ⟨by rfl, by intro w; go_simp; try with_reducible rfl⟩) ?_
          refine wpAny_ready (rs := [12]) (by kernel_rfl) (by simp) ?_
          refine AllReady.cons rfl (fun K hK => ?_) AllReady.nil
          go_simp
          refine (c3 _ (uw_below HW.out hbw)).mono ?_
          rintro e w10 ⟨rfl, hb10⟩
          replace hrg13 : RowU w10 g13 uz := Row.below hrg13 hb10 (Row.lt hrg13)
          replace hbw := hbw.trans (hb10.mono hbw.size)
          clear hb10
          refine hK _ _ ?_
          clear hK K
          refine wpAny_take (i := 13) (v := .tuple #[.agg Z, .int .i64 4]) rfl (by kernel_rfl) (by kernel_rfl) (by kernel_rfl) (fun _ _ _ h => h) (Or.inl ⟨by rfl, by intro w; go_simp; try with_reducible rfl⟩) ?_
          refine wpAny_take (i := 14) (v := .agg Z) rfl (by kernel_rfl) (by kernel_rfl) (by kernel_rfl) (fun _ _ _ h => h) (Or.inl ⟨by rfl, by intro w; go_simp; try with_reducible rfl⟩) ?_
          refine wpAny_take (i := 15) (v := .int .i64 4) rfl (by kernel_rfl) (by kernel_rfl) (by kernel_rfl) (fun _ _ _ h => h) (Or.inl ⟨by rfl, by intro w; go_simp; try with_reducible rfl⟩) ?_
          refine wpAny_tail 17 rfl (by kernel_rfl) ?_
          simp only [List.drop_succ_cons, List.drop_zero]
          go_simp
          go_wp2_with (refine wpList_store_url rfl rfl _ _ rfl g13 (by exact rfl) Z (by exact rfl) uz hrg13 rfl hZ hZ1 ?_
                       intro w8 hr13 hS
                       replace hbw := below_row hbw hS (Nat.le_refl _) hle)
          go_meet
          exact ⟨rfl, hbw⟩
      · refine step_alloc_url rfl rfl (fun W7 g13 hga hgb hrg13 hG => ?_)
        have hle : w.heap.size ≤ g13 := by have := hbw.size; omega
        try replace hrow := Row.grown0 hrow hG
        replace hbw := below_row0 hbw hG (Nat.le_refl _)
        clear hG hga hgb
        refine hK _ _ ?_
        clear hK K
        refine wpAny_ready (rs := [5]) (by kernel_rfl) (by simp) ?_
        refine AllReady.cons rfl (fun K hK => ?_) AllReady.nil
        go_simp
        refine hK _ _ ?_
        clear hK K
        have hrow : Row (W7.alloc (.cells #[.int .u8 (c.toNat : Int)] 5)) W7.heap.size 5 #[.int .u8 (c.toNat : Int)] := row_new _ _ _
        replace hrg13 : RowU (W7.alloc (.cells #[.int .u8 (c.toNat : Int)] 5)) g13 uz := Row.grown0 hrg13 (World.grownBy_alloc W7 _ _)
        replace hbw := hbw.alloc hbw.size (.cells #[.int .u8 (c.toNat : Int)] 5)
        generalize W7.alloc (.cells #[.int .u8 (c.toNat : Int)] 5) = w5 at *
        generalize W7.heap.size = bB at *
        refine wpAny_ready (rs := [6]) (by kernel_rfl) (by simp) ?_
        refine AllReady.cons rfl (fun K hK => ?_) AllReady.nil
        have hcv := str_one w5 bB (c.toNat : Int) c rfl (Row.at9 hrow rfl)
        go_simp
        refine hK _ _ ?_
        clear hK K hcv hrow
        refine wpAny_take (i := 7) (v := .string (X3 ++ bs [c])) rfl (by kernel_rfl) (by kernel_rfl) (by kernel_rfl) (fun _ _ _ h => h) (Or.inl ⟨by rfl, by intro w; go_simp; try with_reducible rfl⟩) ?_
        refine wpAny_take (i := 11) (v := .string T3) rfl (by kernel_rfl) (by kernel_rfl) (by kernel_rfl) (fun _ _ _ h => h) (Or.inl ⟨by rfl, by intro w; go_simp; try with_reducible rfl⟩) ?_
        refine wpAny_ready (rs := [12]) (by kernel_rfl) (by simp) ?_
        refine AllReady.cons rfl (fun K hK => ?_) AllReady.nil
        go_simp
        refine (c3 _ (uw_below HW.out hbw)).mono ?_
        rintro e w10 ⟨rfl, hb10⟩
        replace hrg13 : RowU w10 g13 uz := Row.below hrg13 hb10 (Row.lt hrg13)
        replace hbw := hbw.trans (hb10.mono hbw.size)
        clear hb10
        refine hK _ _ ?_
        clear hK K
        refine wpAny_take (i := 13) (v := .tuple #[.agg Z, .int .i64 4]) rfl (by kernel_rfl) (by kernel_rfl) (by kernel_rfl) (fun _ _ _ h => h) (Or.inl ⟨by rfl, by intro w; go_simp; try with_reducible rfl⟩) ?_
        refine wpAny_take (i := 14) (v := .agg Z) rfl (by kernel_rfl) (by kernel_rfl) (by kernel_rfl) (fun _ _ _ h => h) (Or.inl ⟨by rfl, by intro w; go_simp; try with_reducible rfl⟩) ?_
        refine wpAny_take (i := 15) (v := .int .i64 4) rfl (by kernel_rfl) (by kernel_rfl) (by kernel_rfl) (fun _ _ _ h => h) (Or.inl ⟨by rfl, by intro w; go_simp; try with_reducible rfl⟩) ?_
        refine wpAny_tail 17 rfl (by kernel_rfl) ?_
        simp only [List.drop_succ_cons, List.drop_zero]
        go_simp
        go_wp2_with (refine wpList_store_url rfl rfl _ _ rfl g13 (by exact rfl) Z (by exact rfl) uz hrg13 rfl hZ hZ1 ?_
                     intro w8 hr13 hS
                     replace hbw := below_row hbw hS (Nat.le_refl _) hle)
        go_meet
        exact ⟨rfl, hbw⟩
    case rest =>
    clear hbw
    obtain ⟨rfl, hbw⟩ := hcut
    go_wp2_with (go_at_call 11; refine (cw _ (uw_below HW.out hbw)).mono ?_; rintro e w13 ⟨rfl, hb13⟩; replace hbw := hbw.trans (hb13.mono hbw.size))
    go_ret
    exact ⟨rfl, hbw⟩
end

end Go.Proofs.YtdfacgncphmcoaaGreatDoor
