/-
The reference's ValidName of layer 14.
A pin that came in by value.
A slice of bytes that came in (over TyB).
What the claim of the Great Door imports.
What the statements' listed variables give: the two tables that unicode/utf8 reads.
-/
import Derived.Test.YthoolifdmemceaaGreatDoorB11
import Derived.Test.YthoolifdmemceaaGreatDoorB29
import Derived.Test.YthoolifdmemceaaGreatDoorB28
import Derived.Test.YthoolifdmemceaaGreatDoorB18
import Derived.Test.YthoolifdmemceaaGreatDoorB23
import Derived.Deep.SlicePairs
import Derived.Deep.Slices
import Derived.Deep.Fields
import Derived.ChangeSame
import Derived.Test.YthoolifdmemceaaGreatDoorB02
import Derived.Test.YthoolifdmemceaaGreatDoorB26
import Derived.Test.YthoolifdmemceaaGreatDoorB10
import Derived.Test.YthoolifdmemceaaGreatDoorShelf
import Derived.PinnedBridge
import Derived.Lib.LaidU8
import Derived.MakeChecks
import Derived.Lay
import Derived.LaidOnce
namespace Go.Proofs.YthoolifdmemceaaGreatDoor
section
open Go.RowKit Go.Shelf

theorem vn_short {l : List UInt8} (h1 : l.length ≤ 253) (h2 : l ≠ []) (h3 : numericL l = false) : vnL l = (splitL 46 l).all labL := by
  unfold vnL
  rw [decide_eq_true h2, decide_eq_true h1, h3]
  rfl
theorem all_drop {α : Type _} (p : α → Bool) : ∀ (l : List α) (k : Nat), (∀ x ∈ l.take k, p x = true) → l.all p = (l.drop k).all p
  | l, 0, _ => rfl
  | [], _ + 1, _ => rfl
  | a :: r, k + 1, h => by
    rw [List.all_cons, h a (by simp), Bool.true_and, List.drop_succ_cons]
    exact all_drop p r k fun x hx => h x (by simp [hx])

set_option maxRecDepth 20000 in
set_option maxHeartbeats 4000000 in
theorem refVn_any : HoVn 22 := by
  intro s w hs
  by_cases h0 : s.size = 0
  · have hnil : ls s = [] := List.eq_nil_of_length_eq_zero (by rw [ls_length]; exact h0)
    rw [hnil, show vnL [] = false from rfl]
    have he : (s.toList == ([] : List UInt8)) = true := by rw [toList_ls, hnil]; rfl
    have he' : s.toList.isEmpty = true := by rw [toList_ls, hnil]; rfl
    clear h0 hnil
    go_enter Tryz.func22, Tryz.ntmps22
    go_wp2
    go_ret
    exact ⟨rfl, Below.refl _ _⟩
  · have hne : ls s ≠ [] := fun e => h0 (by have := ls_length s; rw [e] at this; simpa using this.symm)
    have he : (s.toList == ([] : List UInt8)) = false := by rw [toList_ls]; exact beq_false_of_ne hne
    have he' : s.toList.isEmpty = false := by rw [toList_ls]; cases hx : ls s with
      | nil => exact absurd hx hne
      | cons _ _ => rfl
    by_cases h1 : 253 < s.size
    · have hV : vnL (ls s) = false := by
        unfold vnL
        rw [decide_eq_false (by rw [ls_length]; omega : ¬ (ls s).length ≤ 253)]
        simp
      have hd : decide ((253 : Int) < (s.size : Int)) = true := decide_eq_true (by omega)
      rw [hV]
      clear h0 hne hV
      go_enter Tryz.func22, Tryz.ntmps22
      go_wp2
      go_ret
      exact ⟨rfl, Below.refl _ _⟩
    · have hd : decide ((253 : Int) < (s.size : Int)) = false := decide_eq_false (by omega)
      have c1 := fun W => refNumeric_any s W hs
      cases hq : numericL (ls s) with
      | true =>
        have hV : vnL (ls s) = false := by unfold vnL; rw [hq]; simp
        rw [hq] at c1
        rw [hV]
        clear h0 hne hV hq
        go_enter Tryz.func22, Tryz.ntmps22
        go_wp2_with fail
        refine (c1 _).mono ?_
        rintro e w1 ⟨rfl, hb1⟩
        go_wp2
        go_ret
        exact ⟨rfl, hb1⟩
      | false =>
        have hV : vnL (ls s) = (splitL 46 (ls s)).all labL := vn_short (by rw [ls_length]; omega) hne hq
        rw [hq] at c1
        rw [hV]
        have c2 := fun W => refSplit_any s 46 W hs
        have hlen := splitL_length 46 (ls s)
        rw [ls_length] at hlen
        have hszs : ∀ x ∈ splitL 46 (ls s), x.length ≤ 1000000000 := fun x hx => by have := splitG_sizes 46 (ls s) [] x hx; rw [ls_length] at this; simp at this; omega
        have hpos := splitL_pos 46 (ls s)
        generalize splitL 46 (ls s) = P at *
        obtain ⟨R, hR⟩ : ∃ R, R = P.all labL := ⟨_, rfl⟩
        have HR := Lib.hid hR
        rw [← hR]
        clear h0 hne hV hq hR
        go_enter Tryz.func22, Tryz.ntmps22
        go_wp2_with fail
        refine (c1 _).mono ?_
        rintro e w1 ⟨rfl, hb1⟩
        go_wp2_with fail
        refine (c2 _).mono ?_
        rintro e w2 ⟨v, m, rfl, hown, hb2⟩
        obtain ⟨A, c, rfl, hh, hmc⟩ := Has.of_own hown
        have hm : m = P.length := by have := hh.1; rw [wv_length] at this; omega
        obtain ⟨b, off, rfl, _⟩ := str_cell hh 0 (by omega)
        have hb0 := hb1.trans (hb2.mono hb1.size)
        have HB := Lib.hid hb0
        have HH := Lib.hid hh
        have HM := Lib.hid hm
        have HSZ := Lib.hid hszs
        have hmb : m ≤ 1000000001 := by omega
        clear hm hh hszs hpos hown hb0 hb1 hb2 c1 c2 hlen
        go_wp2
        go_loopw [4] (fun i wr => ∃ k : Nat, k ≤ m ∧ i = .int .i64 k ∧ Hid (R = (P.drop k).all labL) ∧ Below w2.heap.size w2 wr) (fun i _ => m - (intOf i).toNat)
        case atStart => exact ⟨0, Nat.zero_le _, rfl, HR, Below.refl _ _⟩
        case round =>
          obtain ⟨k, hk, rfl, HK, hb3⟩ := hrel
          by_cases hlt : k < m
          · obtain ⟨b', off', e, hcell⟩ := str_cell (HH.out.below hb3) k hlt
            injection e with e
            injection e with e1 e2 _
            subst e1 e2
            have hkP : k < P.length := by rw [← HM.out]; exact hlt
            have hdr : P.drop k = P.getD k [] :: P.drop (k + 1) := by
              rw [List.drop_eq_getElem_cons hkP, List.getD_eq_getElem?_getD, List.getElem?_eq_getElem hkP, Option.getD_some]
            have hxs : (P.getD k []).length ≤ 1000000000 := HSZ.out _ (by rw [List.getD_eq_getElem?_getD, List.getElem?_eq_getElem hkP, Option.getD_some]; exact List.getElem_mem hkP)
            have HK2 := HK.out
            rw [hdr, List.all_cons] at HK2
            generalize P.getD k [] = x at *
            have c3 := fun W => refLab_any (bs x) W (by rw [bs_size]; exact hxs)
            simp only [ls_bs] at c3
            cases hx : labL x with
            | true =>
              rw [hx, Bool.true_and] at HK2
              have HN := Lib.hid HK2
              rw [hx] at c3
              clear hx HK2 hdr hkP hxs
              go_wp2_with (go_at_call 31; refine (c3 _).mono ?_; rintro e w4 ⟨rfl, hb4⟩)
              go_roundw
              case rel => exact ⟨k + 1, by omega, by go_num, HN, hb3.trans (hb4.mono hb3.size)⟩
              case measure => simp [intOf]; omega
            | false =>
              rw [hx, Bool.false_and] at HK2
              have HN := Lib.hid HK2
              rw [hx] at c3
              clear hx HK2 hdr hkP hxs
              go_wp2_with (go_at_call 31; refine (c3 _).mono ?_; rintro e w4 ⟨rfl, hb4⟩)
              go_ret
              exact ⟨ret_bool HN.out.symm, HB.out.trans ((hb3.trans (hb4.mono hb3.size)).mono HB.out.size)⟩
          · obtain rfl : k = m := by omega
            have HN : Hid (R = true) := by
              show _ = _
              rw [HK.out, List.drop_eq_nil_of_le (by have := HM.out; omega)]
              rfl
            go_wp2
            go_ret
            exact ⟨ret_bool HN.out.symm, HB.out.trans (hb3.mono HB.out.size)⟩
end

section
open Go.RowKit

theorem pnTyS : Tryz.prog.underlying 9 = some .string := by kernel_rfl
theorem pnTyB : Tryz.prog.underlying 4 = some .bool := by kernel_rfl
theorem pnTyI : Tryz.prog.underlying 3 = some (.int .i64) := by kernel_rfl
open Go.ChangeShapes Go.WideShapes Go.ChangeMaps in
set_option maxRecDepth 100000 in
theorem open_pn {H : Type} {enc : TypeId × Value → H} {W : World} {base : Nat} {held : Bool} {v : Value} {d : DataW H} {p : List MemPlace} (hval : Value.okWide Tryz.prog W .any base 23 v) (h : DataW.Trod enc Tryz.prog W 0 (fun _ => true) held 23 v d p) :
    ∃ (n : ByteArray) (s : Bool) (x : Int), v = .agg #[.string n, .bool s, .int .i64 x] ∧ n.size ≤ maxLen ∧ (Lit.int .i64 x).wf = true := by
  obtain ⟨cs, rfl, hsz⟩ := Go.WideShapes.okWide_struct Tryz.underlying23 hval
  have hc3 : Tryz.prog.cellsOf 23 = 3 := by kernel_rfl
  have hcs : Tryz.prog.cellsOf 9 = 1 := by kernel_rfl
  have hcb : Tryz.prog.cellsOf 4 = 1 := by kernel_rfl
  have hci : Tryz.prog.cellsOf 3 = 1 := by kernel_rfl
  rw [hc3] at hsz
  obtain ⟨l⟩ := cs
  obtain ⟨u0, u1, u2, rfl⟩ : ∃ u0 u1 u2, l = [u0, u1, u2] := by
    match l, hsz with
    | [u0, u1, u2], _ => exact ⟨u0, u1, u2, rfl⟩
  obtain ⟨fuel, hf⟩ := h
  obtain ⟨ys, n', _, _, _, hyl, hg⟩ := DataW.trod_struct Tryz.underlying23 hf
  obtain ⟨y0, y1, y2, rfl⟩ : ∃ y0 y1 y2, ys = [y0, y1, y2] := by
    match ys, hyl with
    | [y0, y1, y2], _ => exact ⟨y0, y1, y2, rfl⟩
  have s0 : DataW.trod enc Tryz.prog W 0 (fun _ => true) held n' 9 [u0] = some y0 := by
    have := hg 0 _ rfl
    change DataW.trod _ _ _ _ _ _ _ 9 (List.take (Tryz.prog.cellsOf 9) _) = _ at this
    rw [hcs] at this
    exact this
  have s1 : DataW.trod enc Tryz.prog W 0 (fun _ => true) held n' 4 [u1] = some y1 := by
    have := hg 1 _ rfl
    change DataW.trod _ _ _ _ _ _ _ 4 (List.take (Tryz.prog.cellsOf 4) _) = _ at this
    rw [hcb] at this
    exact this
  have s2 : DataW.trod enc Tryz.prog W 0 (fun _ => true) held n' 3 [u2] = some y2 := by
    have := hg 2 _ rfl
    change DataW.trod _ _ _ _ _ _ _ 3 (List.take (Tryz.prog.cellsOf 3) _) = _ at this
    rw [hci] at this
    exact this
  obtain ⟨x0, e0, _, w0⟩ := DataW.trod_string pnTyS s0
  obtain ⟨x1, e1, _⟩ := DataW.trod_bool pnTyB s1
  obtain ⟨x2, e2, _, w2⟩ := DataW.trod_int pnTyI s2
  simp at e0 e1 e2
  subst e0 e1 e2
  exact ⟨x0, x1, x2, rfl, w0, w2⟩
end

section
open Go.RowKit Go.ChangeShapes Go.WideShapes Go.Deep

theorem opn8_b {H : Type} {enc : TypeId × Value → H} {w : World} {held : Bool} {fuel : Nat} {A : Option Addr} {n c : Nat} {x : DataW H × List MemPlace} (h : DataW.trod enc Tryz.prog w 0 (fun _ => true) held fuel 24 [.slice A n c] = some x) : ∃ l, Arg8 w A n c l := by
  rcases open_ints tyBs tyU8 (by kernel_rfl) h with ⟨hcs, _⟩ | ⟨y, l, c', zs, hcs, _, hl, hm, hz, _, hcell, hwz⟩
  · simp at hcs
    obtain ⟨rfl, rfl, rfl⟩ := hcs
    exact arg8_of (zs := []) (.inl ⟨rfl, rfl, rfl, rfl⟩)
  · simp at hcs
    obtain ⟨rfl, rfl, rfl⟩ := hcs
    exact arg8_of (zs := zs) (.inr ⟨_, rfl, hl, hm, by simpa using hz, hcell, hwz⟩)
end

section
open Go.RowKit

theorem kRV : PnVal 10 := refPnValid_any refVn_any
theorem kRE : PnEnc 6 := refPnEnc_any kRV
theorem kRD : PnDec 8 := refPnDec_any refVn_any
end

section
open Go.RowKit

/-- The list of the rows: the same for all of them. -/
abbrev laid4 : List (String × DataW Unit) := Rows.pinCodecMatchesSpecRow.laid
theorem acc_data : (Rows.laid_unicode_utf8_acceptRanges : DataW Unit) = Lib.acceptData := by kernel_rfl
theorem fst_data : (Rows.laid_unicode_utf8_first : DataW Unit) = Lib.firstData := Pinned.utf8First_eq
theorem u8_extra : U8Extra Tryz.prog Tryz.lays197_ren := ⟨by kernel_rfl, by kernel_rfl, by kernel_rfl, by kernel_rfl, by kernel_rfl, by kernel_rfl, by kernel_rfl⟩
theorem u8_of_laid {W : World} (h : laidMetH Tryz.prog laid4 W) : U8 W := by
  rw [MakeChecks.laidMetH_plain _ _ _ (by kernel_rfl)] at h
  exact utf8Tabs_of_reads { Tryz.lays197 with } u8_extra (fst_data ▸ Lib.laidMet.reads h (.tail _ (.head _))) (acc_data ▸ Lib.laidMet.reads h (.head _))
end

end Go.Proofs.YthoolifdmemceaaGreatDoor
