/-
What the statements' listed variables give: the library's tables and the error of a text that is no number.
What the statements' listed variables give for URLs: also the error of a number out of range.
Contract of allDigits of package ipv4.
Contract of Numeric of package ipv4.
make([]byte, 0, n). No function of the program.
Contracts of Format and Parse of package ipv4; strconv.AppendUint.
A reader of IPv6 addresses from left to right: no program.
-/
import Derived.Test.YtdfacgncphmcoaaGreatDoorC21
import Derived.Test.YtdfacgncphmcoaaGreatDoorShelf
import Derived.PinnedBridge
import Derived.Lib.LaidU8
import Derived.Lib.LaidTab
import Derived.Lib.TrailingZeros
import Derived.MakeChecks
import Derived.Lay
import Derived.LaidOnce
import Derived.Stop.LaidErr
import Derived.Test.YtdfacgncphmcoaaGreatDoorC24
import Derived.Test.YtdfacgncphmcoaaGreatDoorC20
import Derived.Test.YtdfacgncphmcoaaGreatDoorC07
import Derived.Laws.MakeOwn
import Derived.Test.YtdfacgncphmcoaaGreatDoorC03
namespace Go.Proofs.YtdfacgncphmcoaaGreatDoor
section
open Go.RowKit
/-- The list of the rows: the same for all of them. -/
abbrev laid4 : List (String × DataW Unit) := Rows.urlParseMatchesSpecRow.laid
theorem acc_data : (Rows.laid_unicode_utf8_acceptRanges : DataW Unit) = Lib.acceptData := by kernel_rfl
theorem fst_data : (Rows.laid_unicode_utf8_first : DataW Unit) = Lib.firstData := Pinned.utf8First_eq
theorem pow_data : (Rows.laid_internal_strconv_uint64pow10 : DataW Unit) = Lib.tabData .u64 Lib.pow10Tab := by kernel_rfl
theorem deb_data : ∃ zs : List Int, (Rows.laid_math_bits_deBruijn64tab : DataW Unit) = Lib.tabData .u8 zs ∧ zs.length = 64 ∧ zs.getD 15 0 = 4 :=
  ⟨Lib.deBruijn64tab.map fun (x : Nat) => (x : Int), by kernel_rfl, rfl, rfl⟩
/-- The variable's name. -/
def tabD : String := (laid4.tail.head (List.cons_ne_nil _ _)).1
theorem u8_extra : U8Extra Tryz.prog Tryz.lays197_ren := ⟨by kernel_rfl, by kernel_rfl, by kernel_rfl, by kernel_rfl, by kernel_rfl, by kernel_rfl, by kernel_rfl⟩
/-- The variable's name. -/
def tabE : String := (laid4.tail.tail.tail.tail.tail.head (List.cons_ne_nil _ _)).1
theorem err_data : ∃ l : List UInt8, (Rows.laid_strconv_ErrSyntax : DataW Unit) = .iface "*errors.errorString" (.ptr (.agg [.lit (.string l)])) := ⟨_, rfl⟩
theorem err_star : "*" ++ "errors.errorString" = "*errors.errorString" := by decide
theorem err_row (u : TypeId) (h : Tryz.prog.typeName? 3 u = some "*errors.errorString") : u = 186 :=
  typeName_ptr_named (nm := "errors.errorString") (by rw [err_star]; kernel_rfl) (by kernel_rfl) (by decide) u (by rw [err_star]; exact h)
set_option maxRecDepth 20000 in
theorem hw_of_laid {W : World} (h : laidMetH Tryz.prog laid4 W) : Hw W := by
  rw [MakeChecks.laidMetH_plain _ _ _ (by kernel_rfl)] at h
  refine ⟨⟨?_, ?_⟩, ?_, ?_⟩
  · obtain ⟨rest, h3⟩ : ∃ rest, laidMet Tryz.prog ((tabN, Lib.tabData .u64 Lib.pow10Tab) :: rest) W := by
      rw [← pow_data]
      exact ⟨_, h.tail.tail⟩
    exact Lib.tabIs_of_head (g := 1) (t := 157) (e := 94) (n := 20) (by kernel_rfl) (by kernel_rfl) (by kernel_rfl) (by kernel_rfl) (by kernel_rfl) (by kernel_rfl) h3
  · obtain ⟨zs, he, hl, hz⟩ := deb_data
    obtain ⟨rest, h3⟩ : ∃ rest, laidMet Tryz.prog ((tabD, Lib.tabData .u8 zs) :: rest) W := by
      rw [← he]
      exact ⟨_, h.tail⟩
    have := (Lib.tabIs_of_head (g := 7) (t := 190) (e := 5) (n := 64) (by kernel_rfl) (by kernel_rfl) (by kernel_rfl) (by kernel_rfl) (by kernel_rfl) (by kernel_rfl) h3).cell (g := 7) (by kernel_rfl) 15 (by omega)
    rwa [hz] at this
  · exact utf8Tabs_of_reads { Tryz.lays197 with } u8_extra (fst_data ▸ Lib.laidMet.reads h (.tail _ (.tail _ (.tail _ (.tail _ (.tail _ (.tail _ (.head _)))))))) (acc_data ▸ Lib.laidMet.reads h (.tail _ (.tail _ (.tail _ (.head _)))))
  · obtain ⟨l, hl⟩ := err_data
    obtain ⟨rest, h3⟩ : ∃ rest, laidMet Tryz.prog ((tabE, .iface "*errors.errorString" (.ptr (.agg [.lit (.string l)]))) :: rest) W := by
      rw [← hl]
      exact ⟨_, h.tail.tail.tail.tail.tail⟩
    obtain ⟨a, s, hv, _⟩ := laid_sentinel (g := 4) (ti := 96) (tp := 186) (te := 188) (ts := 9) h3 (by kernel_rfl) (by kernel_rfl) Tryz.underlying96 (fun u hu => err_row u hu) Tryz.underlying186 Tryz.underlying188 rfl rfl tyStr (by kernel_rfl) (by kernel_rfl)
    exact ⟨_, _, by simpa using World.var?_cell (g := 4) (by kernel_rfl) hv 0⟩
end

section
open Go.RowKit
/-- The variable's name. -/
def tabR : String := (laid4.tail.tail.tail.tail.head (List.cons_ne_nil _ _)).1
theorem rng_data : ∃ l : List UInt8, (Rows.laid_strconv_ErrRange : DataW Unit) = .iface "*errors.errorString" (.ptr (.agg [.lit (.string l)])) := ⟨_, rfl⟩
set_option maxRecDepth 20000 in
theorem uw_of_laid {W : World} (h : laidMetH Tryz.prog laid4 W) : Uw W := by
  refine ⟨hw_of_laid h, ?_⟩
  rw [MakeChecks.laidMetH_plain _ _ _ (by kernel_rfl)] at h
  obtain ⟨l, hl⟩ := rng_data
  obtain ⟨rest, h3⟩ : ∃ rest, laidMet Tryz.prog ((tabR, .iface "*errors.errorString" (.ptr (.agg [.lit (.string l)]))) :: rest) W := by
    rw [← hl]
    exact ⟨_, h.tail.tail.tail.tail⟩
  obtain ⟨a, s, hv, _⟩ := laid_sentinel (g := 5) (ti := 96) (tp := 186) (te := 188) (ts := 9) h3 (by kernel_rfl) (by kernel_rfl) Tryz.underlying96 (fun u hu => err_row u hu) Tryz.underlying186 Tryz.underlying188 rfl rfl tyStr (by kernel_rfl) (by kernel_rfl)
  exact ⟨_, _, by simpa using World.var?_cell (g := 5) (by kernel_rfl) hv 0⟩
end

section
open Go.RowKit
theorem allDigits_any (s : ByteArray) (hs : s.size ≤ 1000000000) (b : Nat) (hb : b ≤ 16) (w : World) :
    Calls Tryz.prog 147 #[.string s, .int .u64 b] w fun e w' => e = .returned (.bool ((ls s).all (fun c => decide (digV c < b)))) ∧ w = w' := by
  go_enter Tryz.func147, Tryz.ntmps147
  go_wp2
  go_loop [8] (fun i => ∃ k : Nat, k ≤ s.size ∧ i = .int .i64 k ∧ Hid ((ls s).all (fun c => decide (digV c < b)) = ((ls s).drop k).all (fun c => decide (digV c < b)))) (fun i => s.size - (intOf i).toNat)
  case atStart => exact ⟨0, Nat.zero_le _, rfl, Lib.hid rfl⟩
  case round =>
    obtain ⟨k, hk, rfl, HA⟩ := hrel
    by_cases hlt : k < s.size
    · have hd := digit_any s[k]
      have HD : Hid (((ls s).drop k).all (fun c => decide (digV c < b)) = (decide (digV s[k] < b) && ((ls s).drop (k + 1)).all (fun c => decide (digV c < b)))) := by
        show _ = _
        rw [drop_ls_cons s k hlt, List.all_cons]
      by_cases hg : digV s[k] < b
      · have hge : decide ((b : Int) ≤ ((pd s[k] : Nat) : Int)) = false := decide_eq_false (by have := (pd_lt s[k] b hb).2 hg; omega)
        have HN : Hid ((ls s).all (fun c => decide (digV c < b)) = ((ls s).drop (k + 1)).all (fun c => decide (digV c < b))) := by
          show _ = _
          rw [HA.out, HD.out, decide_eq_true hg, Bool.true_and]
        clear hg
        generalize ((pd s[k] : Nat) : Int) = d at *
        go_wp2_with (go_at_call 176; refine (hd _).mono ?_; rintro e w' ⟨rfl, rfl⟩)
        go_round
        case rel => exact ⟨k + 1, by omega, by go_num, HN⟩
        case measure => simp [intOf]; omega
      · have hge : decide ((b : Int) ≤ ((pd s[k] : Nat) : Int)) = true := decide_eq_true (by have := mt (pd_lt s[k] b hb).1 hg; omega)
        have HN : Hid ((ls s).all (fun c => decide (digV c < b)) = false) := by
          show _ = _
          rw [HA.out, HD.out, decide_eq_false hg, Bool.false_and]
        clear hg
        generalize ((pd s[k] : Nat) : Int) = d at *
        go_wp2_with (go_at_call 176; refine (hd _).mono ?_; rintro e w' ⟨rfl, rfl⟩)
        go_ret
        exact ⟨ret_bool HN.out.symm, rfl⟩
    · obtain rfl : k = s.size := by omega
      have HN : Hid ((ls s).all (fun c => decide (digV c < b)) = true) := by
        show _ = _
        rw [HA.out, drop_ls_all]
        rfl
      go_wp2
      go_ret
      exact ⟨ret_bool HN.out.symm, rfl⟩
end

section
open Go.RowKit
theorem num_any (s : ByteArray) (hs : s.size ≤ 1000000000) (w : World) :
    Calls Tryz.prog 111 #[.string s] w fun e w' => e = .returned (.bool (numericL (ls s))) ∧ w = w' := by
  have c1 := undot_any s hs w
  obtain ⟨T, hT⟩ : ∃ T, T = bs (undot (ls s)) := ⟨_, rfl⟩
  rw [← hT] at c1
  have hTs : T.size ≤ 1000000000 := by rw [hT, bs_size]; have := undot_le (ls s); rw [ls_length] at this; omega
  obtain ⟨i, hi, hib, hlast⟩ := last_index T
  have c2 := fun W => Any.strings_LastIndexByte Tryz.lays149 T 46 (by omega) W
  obtain ⟨x, hx⟩ : ∃ x, x = Lib.lastIndexByte T 46 := ⟨_, rfl⟩
  rw [← hx] at c2 hi
  obtain ⟨X, hX⟩ : ∃ X, X = T.extract i T.size := ⟨_, rfl⟩
  have hL : ls X = (ls T).drop i := by
    rw [hX, ls_extract]
    exact List.take_of_length_le (by rw [List.length_drop, ls_length]; omega)
  have hXs : X.size ≤ 1000000000 := by rw [hX, ByteArray.size_extract]; omega
  have hV : numericL (ls s) = if hexP (ls X) = true then ((ls X).drop 2).all (fun c => decide (digV c < 16)) else (!(ls X).isEmpty && (ls X).all (fun c => decide (digV c < 10))) := by
    rw [numeric_last, ← lastNum_eq, hL, ← hlast, hT, ls_bs]
  have c3 := isHex_any X
  have hx0 : -1 ≤ x := by omega
  have hx1 : x ≤ 1000000000 := by omega
  have hxi : x = (i : Int) - 1 := by omega
  subst hxi
  have hii : (i : Int) - 1 + 1 = (i : Int) := by omega
  have HX := Lib.hid hX
  clear hT hlast hL hx hi hX
  by_cases hh : hexP (ls X) = true
  · rw [if_pos hh] at hV
    rw [hh] at c3
    obtain ⟨b, r, e, _⟩ := (hexP_iff _).1 hh
    have h2 : 2 ≤ X.size := by rw [← ls_length, e]; simp
    have c4 := allDigits_any (X.extract 2 X.size) (by rw [ByteArray.size_extract]; omega) 16 (by omega)
    have e2 : ls (X.extract 2 X.size) = (ls X).drop 2 := by
      rw [ls_extract]
      exact List.take_of_length_le (by rw [List.length_drop, ls_length]; exact Nat.le_refl _)
    rw [e2] at c4
    have HV := Lib.hid hV
    generalize ((ls X).drop 2).all (fun c => decide (digV c < 16)) = q at *
    clear hV hh e e2
    go_enter Tryz.func111, Tryz.ntmps111
    go_wp2_with fail
    refine c1.mono ?_
    rintro e w' ⟨rfl, rfl⟩
    go_wp2_with fail
    refine (c2 _).mono ?_
    rintro e w' ⟨rfl, rfl⟩
    go_wp2_with fail
    rw [← HX.out]
    refine (c3 _).mono ?_
    rintro e w' ⟨rfl, rfl⟩
    go_wp2_with fail
    refine (c4 _).mono ?_
    rintro e w' ⟨rfl, rfl⟩
    go_wp2
    go_ret
    exact ⟨ret_bool HV.out.symm, rfl⟩
  · rw [if_neg hh] at hV
    rw [Bool.not_eq_true] at hh
    rw [hh] at c3
    have hemp : (ls X).isEmpty = decide (X.size = 0) := isEmpty_ls X
    by_cases h0 : X.size = 0
    · have hE : X.toList = ([] : List UInt8) := by rw [toList_ls]; exact List.eq_nil_of_length_eq_zero (by rw [ls_length]; exact h0)
      have HV : Hid (numericL (ls s) = false) := by show _ = _; rw [hV, hemp, decide_eq_true h0]; rfl
      clear hV hh hemp
      go_enter Tryz.func111, Tryz.ntmps111
      go_wp2_with fail
      refine c1.mono ?_
      rintro e w' ⟨rfl, rfl⟩
      go_wp2_with fail
      refine (c2 _).mono ?_
      rintro e w' ⟨rfl, rfl⟩
      go_wp2_with fail
      rw [← HX.out]
      refine (c3 _).mono ?_
      rintro e w' ⟨rfl, rfl⟩
      go_wp2
      go_ret
      exact ⟨ret_bool HV.out.symm, rfl⟩
    · have hE : ¬ X.toList = ([] : List UInt8) := by rw [toList_ls]; exact ls_some X (Nat.pos_of_ne_zero h0)
      have hE2 : X.toList.isEmpty = false := by rw [toList_ls, hemp, decide_eq_false h0]
      have c4 := allDigits_any X hXs 10 (by omega)
      have HV : Hid (numericL (ls s) = (ls X).all (fun c => decide (digV c < 10))) := by show _ = _; rw [hV, hemp, decide_eq_false h0]; rfl
      generalize (ls X).all (fun c => decide (digV c < 10)) = q at *
      clear hV hh hemp
      go_enter Tryz.func111, Tryz.ntmps111
      go_wp2_with fail
      refine c1.mono ?_
      rintro e w' ⟨rfl, rfl⟩
      go_wp2_with fail
      refine (c2 _).mono ?_
      rintro e w' ⟨rfl, rfl⟩
      go_wp2_with fail
      rw [← HX.out]
      refine (c3 _).mono ?_
      rintro e w' ⟨rfl, rfl⟩
      go_wp2_with fail
      refine (c4 _).mono ?_
      rintro e w' ⟨rfl, rfl⟩
      go_wp2
      go_ret
      exact ⟨ret_bool HV.out.symm, rfl⟩
end

section
open Go.RowKit
/-- make([]byte, 0, c). -/
theorem wpList_make_room (w : World) {ops : Array Oper} {rest : List Oper} {o : Oper} {a : Act} {Q : Exit → Act → World → Prop}
    (hg : o.guard = none) (l c : Operand) (hop : o.op = Op.makeSlice 40 l c) (n : Int) (hl : a.eval l = .int .i64 0) (hc : a.eval c = .int .i64 n) (h0 : 0 ≤ n) (hn : n ≤ 4000000000)
    (h : ∀ v' w', w'.ownsRow w.heap.size 5 1 v' 0 [] → Below w.heap.size w w' → wpList Tryz.prog ops Q rest (a.put o.dst v') w') : wpList Tryz.prog ops Q (o :: rest) a w := by
  refine wpList_plain hg fun K hK' => ?_
  obtain ⟨i, hi, hz0, hz1, hz2⟩ := info_parts infoU8
  have hrun := run_make (P := Tryz.prog) w 40 5 i (.int .u8 0) tyBs hi hz0 .i64 .i64 0 n (by omega) (by omega) (by rw [hz2]; omega) (by omega)
  rw [hz1, Nat.mul_one] at hrun
  have hm : madeCells (Value.int .u8 0).cells n.toNat = zeros n.toNat := made_u8 _
  rw [hm] at hrun
  have := h (.slice (some ⟨w.heap.size, 0, none⟩) 0 n.toNat) (w.alloc (.cells (zeros n.toNat) 5))
    ⟨rfl, .inr ⟨w.heap.size, n.toNat, zeros n.toNat, rfl, Nat.le_refl _, by show (w.heap.push _)[w.heap.size]? = _; simp, Nat.zero_le _, by unfold maxLen; omega, by simp [zeros], by simp⟩⟩
    ((Below.refl _ _).alloc (Nat.le_refl _) _)
  unfold Oper.wp
  simp [execOp, hop, hl, hc, hrun, Result.andThen]
  exact hK' _ _ this
end

section
open Go.RowKit
theorem append_any (B n u : Nat) (hu : u < 18446744073709551616) (sv : Value) (l : List UInt8) (w : World) (hp : Pow w) (hown : w.ownsRow B 5 1 sv n (l.map bv)) (hB : B ≤ w.heap.size) (hn : n ≤ 1000000000) :
    Calls Tryz.prog 124 #[sv, .int .u64 u, .int .i64 10] w fun e w' => ∃ v', e = .returned v' ∧ w'.ownsRow B 5 1 v' (n + (Lib.decDigits u).length) ((l ++ Lib.decDigits u).map bv) ∧ Below B w w' := by
  have c1 := Any.internal_strconv_AppendUint_10 Tryz.laysM288 B n u hu sv (l.map bv) w hown hB (by omega) hp
  have HM : Hid (∀ m : List UInt8, l.map bv ++ Lib.byteCells m = (l ++ m).map bv) := by
    show ∀ m : List UInt8, _ = _
    intro m
    rw [List.map_append]
    rfl
  clear hown hp
  go_enter Tryz.func124, Tryz.ntmps124
  go_wp2_with fail
  refine c1.mono ?_
  rintro e w' ⟨v', rfl, h1, h2, _⟩
  rw [HM.out] at h1
  go_wp2
  go_ret
  exact ⟨_, rfl, h1, h2⟩
set_option maxRecDepth 20000 in
set_option maxHeartbeats 4000000 in
theorem fmt_any (v : Int) (hv0 : 0 ≤ v) (hv1 : v < 4294967296) (w : World) (hp : Pow w) :
    Calls Tryz.prog 95 #[.int .u32 v] w fun e w' => e = .returned (.string (bs (fmtI v.toNat))) ∧ Below w.heap.size w w' := by
  obtain ⟨i5, hi5, hz0, hz1, hz2⟩ := info_parts infoU8
  have hF : fmtF v.toNat 4 = fmtI v.toNat := fmtF_all _ (by omega)
  have HF := Lib.hid hF
  clear hF
  go_enter Tryz.func95, Tryz.ntmps95
  go_wp2_with (refine wpList_make_room _ rfl _ _ rfl 15 rfl rfl (by decide) (by decide) ?_; intro v0 w0 hown0 hb0)
  go_loopg [3, 7] 4 (fun g t i wr => ∃ k : Nat, k ≤ 4 ∧ g = 4 - k ∧ i = .int .i64 k ∧ wr.ownsRow w.heap.size 5 1 t (fmtF v.toNat k).length ((fmtF v.toNat k).map bv) ∧ Below w.heap.size w wr)
  case atStart => exact ⟨0, by omega, rfl, rfl, hown0, hb0⟩
  case round =>
    obtain ⟨k, hk, hg, rfl, hown, hb⟩ := hrel
    have HG := Lib.hid hg
    clear hg
    have hlen := fmtF_length v.toNat k
    by_cases hk4 : k < 4
    · obtain ⟨K, hK⟩ : ∃ K, K = 8 * (3 - k) := ⟨_, rfl⟩
      have hKK : (8 : Int) * (3 - (k : Int)) = (K : Int) := by omega
      have hK32 : K ≤ 32 := by omega
      obtain ⟨r, hr⟩ : ∃ r : Nat, r = v.toNat / 2 ^ K := ⟨_, rfl⟩
      have hrv : v / 2 ^ K = (r : Int) := by
        rw [hr, Int.natCast_ediv, Int.natCast_pow, show ((v.toNat : Nat) : Int) = v by omega]
        rfl
      have HR := Lib.hid hrv
      have hrb : r < 4294967296 := by
        rw [hr]
        exact Nat.lt_of_le_of_lt (Nat.div_le_self _ _) (by omega)
      obtain ⟨u, hu⟩ : ∃ u, u = r % 256 := ⟨_, rfl⟩
      have hand : bits .and .u64 (r : Int) 255 = (u : Int) := by
        have := u64_and_nat r 255 (by omega) (by omega)
        rw [show ((255 : Nat) : Int) = 255 from rfl] at this
        rw [this, hu, show 255 = 2 ^ 8 - 1 from rfl, Nat.and_two_pow_sub_one_eq_mod]
      have hwr : IntKind.u64.wrap (r : Int) = (r : Int) := by rw [IntKind.wrap_u64]; omega
      have hdec : Lib.decDigits (v.toNat / 256 ^ (3 - k) % 256) = Lib.decDigits u := by
        rw [hu, hr, hK, Nat.pow_mul]
      have hub : u < 256 := by omega
      have hdl := dec_len3 u hub
      by_cases h0 : k = 0
      · have HN : Hid (fmtF v.toNat (k + 1) = fmtF v.toNat k ++ Lib.decDigits u) := by
          show _ = _
          rw [fmtF, hdec, if_pos h0]
          rfl
        have hd : decide ((0 : Int) < (k : Int)) = false := decide_eq_false (by omega)
        have hdN : decide (0 < k) = false := decide_eq_false (by omega)
        have HU := Lib.hid (show u < 18446744073709551616 by omega)
        clear hK hr hrv hu hdec h0
        go_wp2_with (refine wpList_shr32 _ rfl _ _ _ _ rfl (by kernel_rfl) _ K hK32 (by exact rfl) (by exact rfl) _ HR.out ?_)
        refine (append_any w.heap.size _ u HU.out _ _ _ (pow_below hp hb) hown hb.size (by omega)).mono ?_
        rintro e w1 ⟨v1, rfl, hown1, hb1⟩
        replace hb1 := hb.trans hb1
        have hl : (fmtF v.toNat (k + 1)).length = (fmtF v.toNat k).length + (Lib.decDigits u).length := by rw [HN.out, List.length_append]
        rw [← HN.out, ← hl] at hown1
        go_wp2
        go_roundg (4 - (k + 1))
        case rel => exact ⟨k + 1, by omega, rfl, by go_num, hown1, hb1⟩
        case measure => rw [HG.out]; omega
      · have HN : Hid (fmtF v.toNat (k + 1) = (fmtF v.toNat k ++ [46]) ++ Lib.decDigits u) := by
          show _ = _
          rw [fmtF, hdec, if_neg h0, List.append_assoc]
        have hd : decide ((0 : Int) < (k : Int)) = true := decide_eq_true (by omega)
        have hdN : decide (0 < k) = true := decide_eq_true (by omega)
        have HU := Lib.hid (show u < 18446744073709551616 by omega)
        clear hK hr hrv hu hdec h0
        go_wp2_with (at_builtin; refine wpList_app_one wr rfl _ _ 40 rfl w.heap.size 5 i5 (.int .u8 0) 1 tyBs hi5 hz0 hz1 hz2 rfl _ (by exact rfl) _ _ _ (by exact rfl) hown (by exact rfl) (by unfold maxLen; omega) (by omega) hb (Nat.le_refl _) ?_; intro v2 w2 hown2 hb2 hgr)
        rw [show (fmtF v.toNat k).map bv ++ [Value.int .u8 46] = (fmtF v.toNat k ++ [46]).map bv by rw [List.map_append]; rfl] at hown2
        go_wp2_with fail
        rw [HR.out, hwr, hand]
        refine (append_any w.heap.size _ u HU.out _ _ _ (pow_below hp hb2) hown2 hb2.size (by omega)).mono ?_
        rintro e w1 ⟨v1, rfl, hown1, hb1⟩
        replace hb1 := hb2.trans hb1
        have hl : (fmtF v.toNat (k + 1)).length = (fmtF v.toNat k).length + 1 + (Lib.decDigits u).length := by rw [HN.out, List.length_append, List.length_append]; rfl
        rw [← HN.out, ← hl] at hown1
        go_wp2
        go_roundg (4 - (k + 1))
        case rel => exact ⟨k + 1, by omega, rfl, by go_num, hown1, hb1⟩
        case measure => rw [HG.out]; omega
    · obtain rfl : k = 4 := by omega
      have hconv := str_owned wr _ _ _ _ hown
      rw [HF.out] at hconv
      go_wp2
      go_ret
      exact ⟨rfl, hb⟩
theorem par_any (s : ByteArray) (w : World) (hs : s.size ≤ 1000000000) (hp : Pow w) :
    Calls Tryz.prog 174 #[.string s] w fun e w' => e = .returned (.tuple #[.int .u32 (aV (parseL (ls s))), .bool (aK (parseL (ls s)))]) ∧ Below w.heap.size w w' := by
  have c1 := pn_any s hs w
  cases hq : pnL (ls s) with
  | none =>
    have HE : Hid (parseL (ls s) = none) := by show _ = _; rw [parse_pn, hq]
    rw [hq, show aV (none : Option Nat) = 0 from rfl, show aK (none : Option Nat) = false from rfl] at c1
    clear hq
    go_enter Tryz.func174, Tryz.ntmps174
    go_wp2_with fail
    refine c1.mono ?_
    rintro e w' ⟨rfl, rfl⟩
    go_wp2
    go_ret2
    rw [HE.out]
    exact ⟨rfl, Below.refl _ _⟩
  | some v =>
    have hv := pnL_range hq
    have c2 := fmt_any (v : Int) (by omega) (by omega) w hp
    rw [show ((v : Int)).toNat = v from rfl] at c2
    rw [hq, show aV (some v) = (v : Int) from rfl, show aK (some v) = true from rfl] at c1
    by_cases hf : fmtI v = ls s
    · have HE : Hid (parseL (ls s) = some v) := by show _ = _; rw [parse_pn, hq]; exact if_pos hf
      rw [hf, bs_ls] at c2
      clear hq hf
      go_enter Tryz.func174, Tryz.ntmps174
      go_wp2_with fail
      refine c1.mono ?_
      rintro e w' ⟨rfl, hw⟩
      subst hw
      go_wp2_with fail
      refine c2.mono ?_
      rintro e w2 ⟨rfl, hb⟩
      go_wp2
      go_ret2
      rw [HE.out]
      exact ⟨rfl, hb⟩
    · have HE : Hid (parseL (ls s) = none) := by show _ = _; rw [parse_pn, hq]; exact if_neg hf
      obtain ⟨X, hX⟩ : ∃ X, X = bs (fmtI v) := ⟨_, rfl⟩
      have hne : ¬ X.toList = s.toList := by
        rw [toList_ls, toList_ls, hX, ls_bs]
        exact hf
      have hn2 : (X.toList == s.toList) = false := beq_eq_false_iff_ne.2 hne
      have hn3 : (!X.toList == s.toList) = true := by rw [hn2]; rfl
      rw [← hX] at c2
      clear hq hf hX
      go_enter Tryz.func174, Tryz.ntmps174
      go_wp2_with fail
      refine c1.mono ?_
      rintro e w' ⟨rfl, hw⟩
      subst hw
      go_wp2_with fail
      refine c2.mono ?_
      rintro e w2 ⟨rfl, hb⟩
      go_wp2
      go_ret2
      rw [HE.out]
      exact ⟨rfl, hb⟩
end

section
open Go.RowKit
/-- How many hexadecimal digits a text begins with, at most n. -/
def hexN : Nat → List UInt8 → Nat
  | 0, _ => 0
  | _ + 1, [] => 0
  | n + 1, c :: r => if digV c < 16 then hexN n r + 1 else 0
theorem hexN_le : ∀ (n : Nat) (l : List UInt8), hexN n l ≤ n ∧ hexN n l ≤ l.length
  | 0, _ => by simp [hexN]
  | _ + 1, [] => by simp [hexN]
  | n + 1, c :: r => by
    have ih := hexN_le n r
    unfold hexN
    split
    · simp only [List.length_cons]; omega
    · simp
theorem hexN_lt : ∀ (n : Nat) (l : List UInt8) (k : Nat), k < hexN n l → digV (l.getD k 0) < 16
  | 0, _, k, h => by simp [hexN] at h
  | _ + 1, [], k, h => by simp [hexN] at h
  | n + 1, c :: r, k, h => by
    unfold hexN at h
    split at h
    · rename_i hc
      cases k with
      | zero => exact hc
      | succ k => rw [List.getD_cons_succ]; exact hexN_lt n r k (by omega)
    · omega
theorem hexN_stop : ∀ (n : Nat) (l : List UInt8), hexN n l = n ∨ hexN n l = l.length ∨ ¬ digV (l.getD (hexN n l) 0) < 16
  | 0, _ => .inl rfl
  | _ + 1, [] => .inr (.inl rfl)
  | n + 1, c :: r => by
    have ih := hexN_stop n r
    unfold hexN
    split
    · rcases ih with h | h | h
      · left; omega
      · right; left; simp only [List.length_cons]; omega
      · right; right; rw [List.getD_cons_succ]; exact h
    · rename_i hc
      right; right; exact hc
theorem hexN_all (n : Nat) (l : List UInt8) : (l.take (hexN n l)).all (fun c => decide (digV c < 16)) = true := by
  rw [List.all_eq_true]
  intro c hc
  obtain ⟨k, hk, rfl⟩ := List.getElem_of_mem hc
  have h1 : k < hexN n l := by simp at hk; omega
  have h2 := hexN_lt n l k h1
  have h3 : k < l.length := by simp at hk; omega
  rw [List.getD_eq_getElem?_getD, List.getElem?_eq_getElem h3, Option.getD_some] at h2
  rw [List.getElem_take]
  exact decide_eq_true h2
theorem dig_58 : ¬ digV 58 < 16 := by decide
theorem dig_46 : ¬ digV 46 < 16 := by decide
theorem hex_free (x : List UInt8) (h : x.all (fun c => decide (digV c < 16)) = true) : noB 58 x := by
  intro c hc e
  subst e
  have := List.all_eq_true.1 h _ hc
  exact dig_58 (of_decide_eq_true this)
theorem hexN_append : ∀ (n : Nat) (x r : List UInt8), x.all (fun c => decide (digV c < 16)) = true → x.length ≤ n → (r = [] ∨ ∃ c t, r = c :: t ∧ ¬ digV c < 16) → hexN n (x ++ r) = x.length
  | n, [], r, _, _, hr => by
    rcases hr with rfl | ⟨c, t, rfl, hc⟩
    · cases n <;> rfl
    · cases n with
      | zero => rfl
      | succ n => rw [List.nil_append, hexN, if_neg hc]; rfl
  | 0, c :: x, r, _, h, _ => by simp at h
  | n + 1, c :: x, r, ha, h, hr => by
    rw [List.all_cons, Bool.and_eq_true] at ha
    rw [List.cons_append, hexN, if_pos (of_decide_eq_true ha.1), hexN_append n x r ha.2 (by simp at h; omega) hr]
    rfl
/-- The part of a text before its first colon, and the rest. -/
theorem cut_col : ∀ l : List UInt8, ∃ P, noB 58 P ∧ (l = P ∨ ∃ R, l = P ++ 58 :: R)
  | [] => ⟨[], fun b hb => (by simp at hb), .inl rfl⟩
  | c :: l => by
    by_cases hc : c = 58
    · exact ⟨[], fun b hb => (by simp at hb), .inr ⟨l, by rw [hc]; rfl⟩⟩
    · obtain ⟨P, hP, h⟩ := cut_col l
      refine ⟨c :: P, fun b hb => ?_, ?_⟩
      · rcases List.mem_cons.1 hb with rfl | hb
        · exact hc
        · exact hP b hb
      · rcases h with rfl | ⟨R, rfl⟩
        · exact .inl rfl
        · exact .inr ⟨R, rfl⟩
theorem dbl_skip : ∀ (a m : List UInt8) (i : Nat), noB 58 a → m.head? ≠ some 58 → dblGo (a ++ 58 :: m) i = dblGo m (i + a.length + 1)
  | [], [], i, _, _ => rfl
  | [], c :: m, i, _, h => by
    have hc : c ≠ 58 := by simpa using h
    rw [List.nil_append, dblGo, if_neg (fun e => hc e.2)]
    rfl
  | [x], m, i, ha, h => by
    have hx : x ≠ 58 := ha x (by simp)
    rw [List.cons_append, List.nil_append, dblGo, if_neg (fun e => hx e.1)]
    have := dbl_skip [] m (i + 1) (by intro b hb; simp at hb) h
    simpa using this
  | x :: y :: a, m, i, ha, h => by
    have hx : x ≠ 58 := ha x (by simp)
    rw [List.cons_append, List.cons_append, dblGo, if_neg (fun e => hx e.1)]
    have := dbl_skip (y :: a) m (i + 1) (fun b hb => ha b (by simp at hb ⊢; exact .inr hb)) h
    rw [List.cons_append] at this
    rw [this]
    congr 1
    simp only [List.length_cons]; omega
theorem dbl_ge (P R : List UInt8) (h : noB 58 P) (j : Nat) (hj : dblGo (P ++ 58 :: R) 0 = some j) : P.length ≤ j := by
  by_cases hR : R.head? = some 58
  · cases R with
    | nil => cases hR
    | cons c R =>
      have hc : c = 58 := by simpa using hR
      subst hc
      have := dbl_before P R 0 (dbl_noB P 0 h) (fun e => h 58 (List.mem_of_getLast? e) rfl)
      rw [this] at hj
      injection hj with hj
      omega
  · rw [dbl_skip P R 0 h hR, dbl_shift] at hj
    cases hq : dblGo R 0 with
    | none => rw [hq] at hj; cases hj
    | some q => rw [hq] at hj; injection hj with hj; simp only at hj; omega
theorem grp_pos : ∀ (p : List (List UInt8)) (last : Bool) (g : List Nat), p ≠ [] → grpGo p last = some g → 1 ≤ g.length
  | [], _, _, h, _ => absurd rfl h
  | [x], last, g, _, h => by
    unfold grpGo at h
    split at h
    · injection h with h; subst h; simp
    · split at h
      · injection h with h; subst h; simp
      · cases h
  | x :: y :: r, last, g, _, h => by
    unfold grpGo at h
    split at h
    · cases h
    · split at h
      · cases h
      · injection h with h; subst h; simp
theorem grp_none (P : List UInt8) (rest : List (List UInt8)) (last : Bool) (h : hexL P = none) (hp : last = true → rest = [] → parseL P = none) : grpGo (P :: rest) last = none := by
  cases rest with
  | nil =>
    unfold grpGo
    cases last with
    | false => rw [h]; rfl
    | true => rw [hp rfl rfl, h]; rfl
  | cons y r => unfold grpGo; rw [h]
theorem grp_some (x : List UInt8) (rest : List (List UInt8)) (last : Bool) (v : Nat) (h : hexL x = some v) (hr : rest ≠ []) : grpGo (x :: rest) last = (grpGo rest last).map (v :: ·) := by
  cases rest with
  | nil => exact absurd rfl hr
  | cons y r =>
    rw [grpGo, h]
    cases grpGo (y :: r) last <;> rfl
/-- What is left to be answered when the groups G are read and l is still to be read. -/
def fin6 (G : List Nat) : Option Nat → Option (List Nat)
  | none => if G.length = 8 then some G else none
  | some m => if G.length ≤ 7 then some (G.take m ++ (zerosN (8 - G.length) ++ G.drop m)) else none
def spB (l : List UInt8) (G : List Nat) (m : Nat) : Option (List Nat) := match (if l = [] ∧ G.length = m then some [] else grpGo (splitL 58 l) true) with
  | some h => fin6 (G ++ h) (some m)
  | none => none
def spA (l : List UInt8) (G : List Nat) : Option (List Nat) := match dblGo l 0 with
  | none => (match grpGo (splitL 58 l) true with
    | some g => fin6 (G ++ g) none
    | none => none)
  | some k => (match grpGo (splitL 58 (l.take k)) false with
    | some g => spB (l.drop (k + 2)) (G ++ g) (G ++ g).length
    | none => none)
def sp6 (l : List UInt8) (G : List Nat) : Option Nat → Option (List Nat)
  | none => spA l G
  | some m => spB l G m
theorem sp6_some (l : List UInt8) (G : List Nat) (m : Nat) : sp6 l G (some m) = spB l G m := rfl
theorem sp6_none (l : List UInt8) (G : List Nat) : sp6 l G none = spA l G := rfl
theorem fin6_some (G : List Nat) (m : Nat) : fin6 G (some m) = if G.length ≤ 7 then some (G.take m ++ (zerosN (8 - G.length) ++ G.drop m)) else none := rfl
theorem fin6_none (G : List Nat) : fin6 G none = if G.length = 8 then some G else none := rfl
theorem fin6_long (G : List Nat) (gap : Option Nat) (h : 9 ≤ G.length) : fin6 G gap = none := by
  cases gap with
  | none => rw [fin6_none, if_neg (by omega)]
  | some m => rw [fin6_some, if_neg (by omega)]
theorem split_ne58 (l : List UInt8) : splitL 58 l ≠ [] := splitG_ne 58 l []
/-- The whole text. -/
theorem sp6_start (l : List UInt8) : parse6 l = if l.take 2 = [58, 58] then sp6 (l.drop 2) [] (some 0) else sp6 l [] none := by
  split
  · rename_i h
    obtain ⟨r, rfl⟩ : ∃ r, l = 58 :: 58 :: r := by
      match l, h with
      | a :: b :: r, h => simp at h; exact ⟨r, by rw [h.1, h.2]⟩
    have hd : dblGo (58 :: 58 :: r) 0 = some 0 := by rw [dblGo, if_pos ⟨rfl, rfl⟩]
    unfold parse6 sp6 spB
    rw [hd]
    simp only [List.take_zero, List.drop_succ_cons, List.drop_zero, List.nil_append, List.length_nil]
    rw [show groupsL [] false = some [] from rfl]
    simp only [groupsL]
    by_cases hr : r = []
    · subst hr; simp [fin6]
    · rw [if_neg hr, if_neg (fun e => hr e.1)]
      cases grpGo (splitL 58 r) true with
      | none => rfl
      | some g => simp [fin6]
  · rename_i h
    unfold parse6 sp6 spA
    cases hd : dblGo l 0 with
    | none =>
      simp only [groupsL]
      by_cases hl : l = []
      · subst hl
        rfl
      · rw [if_neg hl]
        cases grpGo (splitL 58 l) true with
        | none => rfl
        | some g => simp [fin6]
    | some k =>
      have hk : l.take k ≠ [] := by
        intro e
        match l, hd, h with
        | a :: b :: r, hd, h =>
          rw [dblGo] at hd
          split at hd
          · rename_i hab; rw [hab.1, hab.2] at h; exact h rfl
          · rw [dbl_shift] at hd
            cases hq : dblGo (b :: r) 0 with
            | none => rw [hq] at hd; cases hd
            | some q =>
              rw [hq] at hd
              injection hd with hd
              simp only at hd
              rw [← hd] at e
              simp at e
      simp only [groupsL]
      rw [if_neg hk]
      cases hg : grpGo (splitL 58 (l.take k)) false with
      | none => rfl
      | some g =>
        simp only [List.nil_append]
        unfold spB
        by_cases hr : l.drop (k + 2) = []
        · rw [if_pos hr, if_pos ⟨hr, rfl⟩]
          simp only [fin6, List.append_nil, List.length_nil, Nat.add_zero, Nat.sub_zero, List.take_length, List.drop_length]
        · rw [if_neg hr, if_neg (fun e => hr e.1)]
          cases grpGo (splitL 58 (l.drop (k + 2))) true with
          | none => rfl
          | some h =>
            simp only [fin6, List.length_append, List.take_left', List.drop_left', Nat.sub_sub]
/-- Nothing is read. -/
theorem sp6_no (l : List UInt8) (G : List Nat) (gap : Option Nat) (hl : ¬ (l = [] ∧ gap = some G.length)) (hp : parseL l = none) (hh : ∀ P, noB 58 P → (l = P ∨ ∃ R, l = P ++ 58 :: R) → hexL P = none) : sp6 l G gap = none := by
  obtain ⟨P, hP, hc⟩ := cut_col l
  have hx := hh P hP hc
  have hg : grpGo (splitL 58 l) true = none := by
    rcases hc with rfl | ⟨R, rfl⟩
    · rw [splitL_one 58 _ hP]
      exact grp_none _ _ _ hx (fun _ _ => hp)
    · rw [splitL_cons 58 P R hP]
      exact grp_none _ _ _ hx (fun _ e => absurd e (split_ne58 R))
  cases gap with
  | some m =>
    rw [sp6_some]; unfold spB
    rw [if_neg (fun e => hl ⟨e.1, by rw [e.2]⟩), hg]
  | none =>
    rw [sp6_none]; unfold spA
    cases hd : dblGo l 0 with
    | none => simp only [hg]
    | some j =>
      have hg2 : grpGo (splitL 58 (l.take j)) false = none := by
        rcases hc with rfl | ⟨R, rfl⟩
        · rw [dbl_noB _ 0 hP] at hd; cases hd
        · have hj := dbl_ge P R hP j hd
          by_cases he : j = P.length
          · rw [he, List.take_left', splitL_one 58 _ hP]
            · exact grp_none _ _ _ hx (fun e => by cases e)
            · rfl
          · obtain ⟨q, rfl⟩ : ∃ q, j = P.length + (q + 1) := ⟨j - P.length - 1, by omega⟩
            rw [List.take_length_add_append, List.take_succ_cons, splitL_cons 58 P _ hP]
            exact grp_none _ _ _ hx (fun e => by cases e)
      simp only [hg2]
/-- More groups than eight. -/
theorem sp6_full (l : List UInt8) (G : List Nat) (gap : Option Nat) (hl : ¬ (l = [] ∧ gap = some G.length)) (h8 : 8 ≤ G.length) : sp6 l G gap = none := by
  have hb : ∀ (t : List UInt8) (H : List Nat) (m : Nat), 8 ≤ H.length → ¬ (t = [] ∧ H.length = m) → spB t H m = none := by
    intro t H m hH ht
    unfold spB
    rw [if_neg ht]
    cases hg : grpGo (splitL 58 t) true with
    | none => rfl
    | some g =>
      have := grp_pos _ _ _ (split_ne58 t) hg
      exact fin6_long _ _ (by simp; omega)
  cases gap with
  | some m => exact hb l G m h8 (fun e => hl ⟨e.1, by rw [e.2]⟩)
  | none =>
    rw [sp6_none]; unfold spA
    cases hd : dblGo l 0 with
    | none =>
      cases hg : grpGo (splitL 58 l) true with
      | none => simp only []
      | some g =>
        have := grp_pos _ _ _ (split_ne58 l) hg
        simp only []
        exact fin6_long _ _ (by simp; omega)
    | some k =>
      cases hg : grpGo (splitL 58 (l.take k)) false with
      | none => simp only [hg]
      | some g =>
        have h1 := grp_pos _ _ _ (split_ne58 (l.take k)) hg
        simp only [hg]
        unfold spB
        by_cases hr : l.drop (k + 2) = []
        · rw [if_pos ⟨hr, rfl⟩]
          exact fin6_long _ _ (by simp; omega)
        · rw [if_neg (fun e => hr e.1)]
          cases grpGo (splitL 58 (l.drop (k + 2))) true with
          | none => rfl
          | some q => exact fin6_long _ _ (by simp; omega)
section
variable {l : List UInt8} {G : List Nat} {gap : Option Nat} {k : Nat}
/-- The value of a group. -/
theorem lead_hexL (h : hexN 4 l = k) (h0 : 0 < k) : hexL (l.take k) = some (valB 16 0 (l.take k)) := by
  have h1 := hexN_le 4 l
  have h2 := hexN_all 4 l
  rw [h] at h1 h2
  unfold hexL
  rw [if_pos ⟨by rw [List.length_take]; omega, h2⟩]
theorem lead_free6 (h : hexN 4 l = k) : noB 58 (l.take k) := by
  have h2 := hexN_all 4 l
  rw [h] at h2
  exact hex_free _ h2
/-- An IPv4 address begins with digits and a dot. -/
theorem lead_dot {u : Nat} (h : parseL l = some u) : 0 < hexN 4 l ∧ ∃ r, l.drop (hexN 4 l) = 46 :: r := by
  obtain ⟨hu, rfl⟩ := parseL_some h
  have hd := dec_all (u / 16777216)
  have hlen : (Lib.decDigits (u / 16777216)).length ≤ 3 := by
    have hlt : u / 16777216 < 256 := by omega
    generalize u / 16777216 = q at hlt
    revert q
    decide +kernel
  have hall : (Lib.decDigits (u / 16777216)).all (fun c => decide (digV c < 16)) = true := by
    rw [List.all_eq_true] at hd ⊢
    intro c hc
    have := of_decide_eq_true (hd c hc)
    exact decide_eq_true (by omega)
  have hpos : 0 < (Lib.decDigits (u / 16777216)).length := by
    have hlt : u / 16777216 < 256 := by omega
    generalize u / 16777216 = q at hlt
    revert q
    decide +kernel
  unfold fmtI
  rw [joinL_cons _ _ _ (by simp)]
  rw [hexN_append 4 _ _ hall (by omega) (.inr ⟨46, _, rfl, dig_46⟩)]
  exact ⟨hpos, _, List.drop_left' rfl⟩
/-- A part that is no group. -/
theorem lead_bad (h : hexN 4 l = k) (hb : k = 0 ∨ ∃ c r, l.drop k = c :: r ∧ c ≠ 58) (P : List UInt8) (hP : noB 58 P) (hc : l = P ∨ ∃ R, l = P ++ 58 :: R) : hexL P = none := by
  by_cases hall : (1 ≤ P.length ∧ P.length ≤ 4) ∧ P.all (fun c => decide (digV c < 16)) = true
  · exfalso
    have hk : k = P.length := by
      rw [← h]
      rcases hc with rfl | ⟨R, rfl⟩
      · have := hexN_append 4 l [] hall.2 hall.1.2 (.inl rfl)
        rwa [List.append_nil] at this
      · exact hexN_append 4 P _ hall.2 hall.1.2 (.inr ⟨58, R, rfl, dig_58⟩)
    rcases hb with h0 | ⟨c, r, hd, hne⟩
    · have := hall.1.1; omega
    · rcases hc with rfl | ⟨R, rfl⟩
      · rw [hk, List.drop_length] at hd; cases hd
      · rw [hk, List.drop_left' rfl] at hd
        injection hd with hd
        exact hne hd.symm
  · unfold hexL
    rw [if_neg hall]
/-- No group, or something behind it that ends the reading. -/
theorem sp6_bad (hl : ¬ (l = [] ∧ gap = some G.length)) (h : hexN 4 l = k) (hb : k = 0 ∨ ∃ c r, l.drop k = c :: r ∧ c ≠ 58 ∧ c ≠ 46) : sp6 l G gap = none := by
  refine sp6_no l G gap hl ?_ (lead_bad h ?_)
  · cases hq : parseL l with
    | none => rfl
    | some u =>
      exfalso
      obtain ⟨h0, r, hr⟩ := lead_dot hq
      rw [h] at h0 hr
      rcases hb with e | ⟨c, t, e, _, h2⟩
      · omega
      · rw [hr] at e; injection e with e; exact h2 e.symm
  · rcases hb with e | ⟨c, t, e, h2, _⟩
    · exact .inl e
    · exact .inr ⟨c, t, e, h2⟩
/-- The last group. -/
theorem sp6_end (h : hexN 4 l = k) (h0 : 0 < k) (hr : l.drop k = []) : sp6 l G gap = fin6 (G ++ [valB 16 0 (l.take k)]) gap := by
  have hx := lead_hexL h h0
  have hn := lead_free6 h
  have hk : l.take k = l := by
    have := List.take_append_drop k l
    rw [hr, List.append_nil] at this
    exact this
  rw [hk] at hx hn ⊢
  have hl : l ≠ [] := by
    intro e; subst e; simp [hexN] at h; omega
  have hg : grpGo (splitL 58 l) true = some [valB 16 0 l] := by
    rw [splitL_one 58 l hn, grpGo, if_pos rfl, hexL_not4 hx, hx]
  cases gap with
  | some m =>
    rw [sp6_some]; unfold spB
    rw [if_neg (fun e => hl e.1), hg]
  | none =>
    rw [sp6_none]; unfold spA
    rw [dbl_noB l 0 hn]
    simp only [hg]
/-- An IPv4 address at the end. -/
theorem sp6_dot {r : List UInt8} (h : hexN 4 l = k) (hr : l.drop k = 46 :: r) : sp6 l G gap = match parseL l with
    | none => none
    | some u => fin6 (G ++ [u / 65536, u % 65536]) gap := by
  have hl : l ≠ [] := by intro e; subst e; simp at hr
  cases hq : parseL l with
  | none => exact sp6_no l G gap (fun e => hl e.1) hq (lead_bad h (.inr ⟨46, r, hr, by decide⟩))
  | some u =>
    have hn : noB 58 l := by
      obtain ⟨hu, rfl⟩ := parseL_some hq
      unfold fmtI
      have hd : ∀ q, noB 58 (Lib.decDigits q) := fun q => hex_free _ (by
        have := dec_all q
        rw [List.all_eq_true] at this ⊢
        intro c hc
        have := of_decide_eq_true (this c hc)
        exact decide_eq_true (by omega))
      intro b hb
      simp only [joinL, List.mem_append, List.mem_cons] at hb
      have h1 := hd (u / 16777216) b
      have h2 := hd (u / 65536 % 256) b
      have h3 := hd (u / 256 % 256) b
      have h4 := hd (u % 256) b
      rcases hb with hb | rfl | hb | rfl | hb | rfl | hb
      · exact h1 hb
      · decide
      · exact h2 hb
      · decide
      · exact h3 hb
      · decide
      · exact h4 hb
    have hg : grpGo (splitL 58 l) true = some [u / 65536, u % 65536] := by
      rw [splitL_one 58 l hn, grpGo, if_pos rfl, hq]
    cases gap with
    | some m =>
      rw [sp6_some]; unfold spB
      rw [if_neg (fun e => hl e.1), hg]
    | none =>
      rw [sp6_none]; unfold spA
      rw [dbl_noB l 0 hn]
      simp only [hg]
/-- The gap. -/
theorem sp6_gap {r : List UInt8} (h : hexN 4 l = k) (h0 : 0 < k) (hr : l.drop k = 58 :: 58 :: r) : sp6 l G none = sp6 r (G ++ [valB 16 0 (l.take k)]) (some (G.length + 1)) := by
  have hx := lead_hexL h h0
  have hn := lead_free6 h
  have hlen : (l.take k).length = k := by have := (hexN_le 4 l).2; rw [h] at this; simp; omega
  have hd : dblGo l 0 = some k := by
    have := dbl_before (l.take k) r 0 (dbl_noB _ 0 hn) (fun e => hn 58 (List.mem_of_getLast? e) rfl)
    rw [← hr, List.take_append_drop, hlen, Nat.zero_add] at this
    exact this
  rw [sp6_none]; unfold spA
  rw [hd]
  simp only
  rw [splitL_one 58 _ hn, show grpGo [l.take k] false = some [valB 16 0 (l.take k)] by rw [grpGo, if_neg (by decide), hx]]
  simp only
  rw [show l.drop (k + 2) = r by rw [← List.drop_drop, hr]; rfl, sp6_some, List.length_append]
  rfl
/-- A single colon. -/
theorem sp6_col {r : List UInt8} (h : hexN 4 l = k) (h0 : 0 < k) (hr : l.drop k = 58 :: r) (hg : gap = none → r.head? ≠ some 58) (hm : ∀ m, gap = some m → m ≤ G.length) : sp6 l G gap = sp6 r (G ++ [valB 16 0 (l.take k)]) gap := by
  have hx := lead_hexL h h0
  have hn := lead_free6 h
  have hlen : (l.take k).length = k := by have := (hexN_le 4 l).2; rw [h] at this; simp; omega
  have hl : l ≠ [] := by intro e; subst e; simp at hr
  have hsp : l = l.take k ++ 58 :: r := by rw [← hr, List.take_append_drop]
  have hs : splitL 58 l = l.take k :: splitL 58 r := by
    conv => lhs; rw [hsp]
    exact splitL_cons 58 _ r hn
  have hgo : ∀ (t : List UInt8) (last : Bool), grpGo (l.take k :: splitL 58 t) last = (grpGo (splitL 58 t) last).map (valB 16 0 (l.take k) :: ·) := fun t last => grp_some _ _ _ _ hx (split_ne58 t)
  generalize valB 16 0 (l.take k) = v at hgo
  cases gap with
  | some m =>
    have hmG := hm m rfl
    rw [sp6_some, sp6_some]; unfold spB
    rw [if_neg (fun e => hl e.1), if_neg (fun e => by have := e.2; simp at this; omega), hs, hgo r true]
    cases grpGo (splitL 58 r) true with
    | none => rfl
    | some g => simp
  | none =>
    have hd : dblGo l 0 = (dblGo r 0).map (· + (k + 1)) := by
      conv => lhs; rw [hsp]
      rw [dbl_skip _ r 0 hn (hg rfl), hlen, Nat.zero_add, dbl_shift]
    rw [sp6_none, sp6_none]; unfold spA
    rw [hd]
    cases hq : dblGo r 0 with
    | none =>
      simp only [Option.map_none]
      rw [hs, hgo r true]
      cases grpGo (splitL 58 r) true with
      | none => rfl
      | some g => simp
    | some j =>
      simp only [Option.map_some]
      have ht : l.take (j + (k + 1)) = l.take k ++ 58 :: r.take j := by
        conv => lhs; rw [hsp]
        rw [show j + (k + 1) = (l.take k).length + (j + 1) by omega, List.take_length_add_append, List.take_succ_cons]
      have hdr : l.drop (j + (k + 1) + 2) = r.drop (j + 2) := by
        conv => lhs; rw [hsp]
        rw [show j + (k + 1) + 2 = (l.take k).length + (j + 2 + 1) by omega, List.drop_length_add_append, List.drop_succ_cons]
      rw [ht, hdr, splitL_cons 58 _ _ hn, hgo (r.take j) false]
      cases grpGo (splitL 58 (r.take j)) false with
      | none => rfl
      | some g => simp
end
end

end Go.Proofs.YtdfacgncphmcoaaGreatDoor
