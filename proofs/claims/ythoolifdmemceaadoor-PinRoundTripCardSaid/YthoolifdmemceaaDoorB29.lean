/-
The reference's Covers of layer 14.
The walk of PinSubdomainsTogether: it returns true.
Contract of hstsstorekeep.OwnBytes.
The walk of PinRoundTrip: it returns true.
A pin that came in by value.
A slice of bytes that came in (over TyB).
What the three claims of the Door import.
What the statements' listed variables give: the two tables that unicode/utf8 reads.
-/
import Derived.Test.YthoolifdmemceaaDoorB28
import Derived.Test.YthoolifdmemceaaDoorB27
import Derived.Test.YthoolifdmemceaaDoorB24
import Derived.Test.YthoolifdmemceaaDoorB26
import Derived.Test.YthoolifdmemceaaDoorB23
import Derived.Deep.SlicePairs
import Derived.Deep.Slices
import Derived.Deep.Fields
import Derived.ChangeSame
import Derived.Test.YthoolifdmemceaaDoorB02
import Derived.Test.YthoolifdmemceaaDoorB10
import Derived.Test.YthoolifdmemceaaDoorShelf
import Derived.PinnedBridge
import Derived.Lib.LaidU8
import Derived.MakeChecks
import Derived.Lay
import Derived.LaidOnce
namespace Go.Proofs.YthoolifdmemceaaDoor
section
open Go.RowKit Go.Shelf

theorem suf_drop {a b : List UInt8} (h : a.length ≤ b.length) : a.isSuffixOf b = (b.drop (b.length - a.length) == a) := by
  rw [Bool.eq_iff_iff, List.isSuffixOf_iff_suffix, beq_iff_eq]
  constructor
  · rintro ⟨x, rfl⟩
    rw [List.length_append, Nat.add_sub_cancel, List.drop_left]
  · intro e
    exact ⟨b.take (b.length - a.length), by
      have := List.take_append_drop (b.length - a.length) b
      rw [e] at this
      exact this⟩
theorem suf_long {a b : List UInt8} (h : b.length < a.length) : a.isSuffixOf b = false := by
  rw [Bool.eq_false_iff]
  intro e
  rw [List.isSuffixOf_iff_suffix] at e
  have := e.length_le
  omega

set_option maxHeartbeats 1000000 in
theorem refCovers_any : HoCov 15 := by
  intro s t w hs ht
  have c1 := refVn_any s w hs
  have c2 := fun W => refVn_any t W ht
  unfold coversL
  have e1 : (s.toList == t.toList) = decide (ls s = ls t) := by rw [toList_ls, toList_ls]; exact Bool.eq_iff_iff.2 (by simp)
  have h4 : s.size < t.size → ((t.extract (t.size - s.size - 1) t.size).toList == ((⟨#[46]⟩ : ByteArray) ++ s).toList) = (46 :: ls s).isSuffixOf (ls t) := by
    intro h
    have ea : ls ((⟨#[46]⟩ : ByteArray) ++ s) = 46 :: ls s := ls_append ⟨#[46]⟩ s
    rw [suf_drop (by rw [List.length_cons, ls_length, ls_length]; omega), toList_ls, toList_ls, ea, ls_from, List.length_cons, ls_length, ls_length, Nat.sub_sub]
  have h5 : ¬ s.size < t.size → (46 :: ls s).isSuffixOf (ls t) = false := fun h => suf_long (by rw [List.length_cons, ls_length, ls_length]; omega)
  obtain ⟨q1, h1⟩ : ∃ q, q = vnL (ls s) := ⟨_, rfl⟩
  obtain ⟨q2, h2⟩ : ∃ q, q = vnL (ls t) := ⟨_, rfl⟩
  obtain ⟨q3, h3⟩ : ∃ q, q = decide (ls s = ls t) := ⟨_, rfl⟩
  obtain ⟨q4, hq4⟩ : ∃ q, q = (46 :: ls s).isSuffixOf (ls t) := ⟨_, rfl⟩
  rw [← h1] at c1 ⊢
  simp only [← h2] at c2 ⊢
  rw [← h3] at e1 ⊢
  rw [← hq4] at h4 h5 ⊢
  clear h1 h2 h3 hq4
  cases q1 with
  | false =>
    clear h4 h5
    go_enter Tryd.func15, Tryd.ntmps15
    go_wp2_with fail
    refine c1.mono ?_
    rintro r w1 ⟨rfl, hb⟩
    go_wp2
    go_ret
    exact ⟨rfl, hb⟩
  | true =>
    cases q2 with
    | false =>
      clear h4 h5
      go_enter Tryd.func15, Tryd.ntmps15
      go_wp2_with fail
      refine c1.mono ?_
      rintro r w1 ⟨rfl, hb⟩
      go_wp2_with fail
      refine (c2 _).mono ?_
      rintro r w2 ⟨rfl, hb2⟩
      go_wp2
      go_ret
      exact ⟨rfl, hb.trans (hb2.mono hb.size)⟩
    | true =>
      cases q3 with
      | true =>
        clear h4 h5
        go_enter Tryd.func15, Tryd.ntmps15
        go_wp2_with fail
        refine c1.mono ?_
        rintro r w1 ⟨rfl, hb⟩
        go_wp2_with fail
        refine (c2 _).mono ?_
        rintro r w2 ⟨rfl, hb2⟩
        go_wp2
        go_ret
        exact ⟨rfl, hb.trans (hb2.mono hb.size)⟩
      | false =>
        by_cases hl : s.size < t.size
        · have h6 := h4 hl
          have hd : decide ((s.size : Int) < (t.size : Int)) = true := decide_eq_true (by omega)
          obtain ⟨K, hK⟩ : ∃ K, K = t.size - s.size - 1 := ⟨_, rfl⟩
          have g1 : (t.size : Int) - (s.size : Int) - 1 = (K : Int) := by omega
          have g2 : K ≤ t.size := by omega
          rw [← hK] at h6
          clear h4 h5 hK
          go_enter Tryd.func15, Tryd.ntmps15
          go_wp2_with fail
          refine c1.mono ?_
          rintro r w1 ⟨rfl, hb⟩
          go_wp2_with fail
          refine (c2 _).mono ?_
          rintro r w2 ⟨rfl, hb2⟩
          go_wp2
          go_ret
          exact ⟨by simp, hb.trans (hb2.mono hb.size)⟩
        · have hd : decide ((s.size : Int) < (t.size : Int)) = false := decide_eq_false (by omega)
          have h6 := h5 hl
          subst h6
          clear h4 h5
          go_enter Tryd.func15, Tryd.ntmps15
          go_wp2_with fail
          refine c1.mono ?_
          rintro r w1 ⟨rfl, hb⟩
          go_wp2_with fail
          refine (c2 _).mono ?_
          rintro r w2 ⟨rfl, hb2⟩
          go_wp2
          go_ret
          exact ⟨rfl, hb.trans (hb2.mono hb.size)⟩
end

section
open Go.RowKit Go.Shelf

set_option maxRecDepth 20000 in
set_option maxHeartbeats 4000000 in
theorem walkPnSub (hV : PnVal 10) (hE : PnEnc 8) (hD : PnDec 7) (hC : PnCmp 13) (hK : HoCov 15) (hN : HoVn 16) (a b c : ByteArray) (w : World) (_ : a.size ≤ maxLen) (_ : b.size ≤ maxLen) (_ : c.size ≤ maxLen) :
    Calls Tryd.prog 5 #[.string a, .string b, .string c] w (Yes w) := by
  have c9 := fun W => awake22_any hV hE hD hC W
  have hhas := pn_three w (.string a) (.string b) (.string c) 9
  have hb0 := (Below.refl w.heap.size w).alloc (Nat.le_refl _) (.cells #[.string a, .string b, .string c] 9)
  have cs := short_any 300 (some ⟨w.heap.size, 0, none⟩) 3 3 [a, b, c] (w.heap.size + 1) (w.alloc (.cells #[.string a, .string b, .string c] 9)) hhas (by omega)
  by_cases hs : (a.size : Int) ≤ 300 ∧ (b.size : Int) ≤ 300 ∧ (c.size : Int) ≤ 300
  · have e : shortB 300 [a, b, c] = true := by simp [shortB]; omega
    rw [e] at cs
    have cab := fun W => hC a b W (by omega) (by omega)
    have cbc := fun W => hC b c W (by omega) (by omega)
    have cac := fun W => hC a c W (by omega) (by omega)
    have kac := fun W => hK a c W (by omega) (by omega)
    have kab := fun W => hK a b W (by omega) (by omega)
    have nb := fun W => hN b W (by omega)
    have hac : coversL (ls a) (ls c) = true → cmpN (ls a) (ls c) ≤ 0 ∧ ((a.toList == c.toList) = false → cmpN (ls a) (ls c) = -1) := by
      intro h
      obtain ⟨h1, h2⟩ := pin_first h
      refine ⟨h1, fun h3 => h2 ?_⟩
      intro h4
      rw [toList_ls, toList_ls, h4, beq_self_eq_true] at h3
      cases h3
    have htg : coversL (ls a) (ls c) = true → vnL (ls b) = true → cmpN (ls a) (ls b) ≤ 0 → cmpN (ls b) (ls c) ≤ 0 → coversL (ls a) (ls b) = true := pin_together
    generalize cmpN (ls a) (ls b) = x at *
    generalize cmpN (ls b) (ls c) = y at *
    generalize cmpN (ls a) (ls c) = z at *
    generalize coversL (ls a) (ls c) = k1 at *
    generalize coversL (ls a) (ls b) = k2 at *
    generalize vnL (ls b) = nv at *
    clear e hs hhas
    go_enter Tryd.func5, Tryd.ntmps5
    go_wp2_with fail
    refine cs.mono ?_
    rintro r w1 ⟨rfl, h1⟩
    rw [h1] at hb0
    clear h1 cs
    go_wp2_with fail
    refine (kac _).mono ?_
    rintro r w2 ⟨rfl, hb2⟩
    replace hb0 := hb0.trans (hb2.mono hb0.size)
    clear hb2 kac
    cases k1 with
    | false =>
      go_wp2_with fail
      refine (c9 _).mono ?_
      rintro r w6 ⟨rfl, hb6⟩
      go_wp2
      go_ret
      exact ⟨rfl, hb0.trans (hb6.mono hb0.size)⟩
    | true =>
      obtain ⟨hz, hne⟩ := hac rfl
      have HT := Lib.hid (htg rfl)
      clear htg
      have dz : ¬ 0 < z := by omega
      clear hac
      generalize hq : (a.toList == c.toList) = q at *
      go_wp2_with fail
      refine (cac _).mono ?_
      rintro r w3 ⟨rfl, hb3⟩
      replace hb0 := hb0.trans (hb3.mono hb0.size)
      clear hb3
      cases q with
      | true =>
        go_wp2_with fail
        refine (nb _).mono ?_
        rintro r w4 ⟨rfl, hb4⟩
        replace hb0 := hb0.trans (hb4.mono hb0.size)
        clear hb4
        cases nv with
        | false =>
          go_wp2_with fail
          refine (c9 _).mono ?_
          rintro r w6 ⟨rfl, hb6⟩
          go_wp2
          go_ret
          exact ⟨rfl, hb0.trans (hb6.mono hb0.size)⟩
        | true =>
          go_wp2_with fail
          refine (cab _).mono ?_
          rintro r w5 ⟨rfl, hb5⟩
          replace hb0 := hb0.trans (hb5.mono hb0.size)
          clear hb5
          by_cases hx : 0 < x
          · go_wp2_with fail
            refine (c9 _).mono ?_
            rintro r w6 ⟨rfl, hb6⟩
            go_wp2
            go_ret
            exact ⟨rfl, hb0.trans (hb6.mono hb0.size)⟩
          · go_wp2_with fail
            refine (cbc _).mono ?_
            rintro r w5 ⟨rfl, hb5⟩
            replace hb0 := hb0.trans (hb5.mono hb0.size)
            clear hb5
            by_cases hy : 0 < y
            · go_wp2_with fail
              refine (c9 _).mono ?_
              rintro r w6 ⟨rfl, hb6⟩
              go_wp2
              go_ret
              exact ⟨rfl, hb0.trans (hb6.mono hb0.size)⟩
            · have hk := HT.out (by first | rfl | trivial) (by omega) (by omega)
              subst hk
              go_wp2_with fail
              refine (kab _).mono ?_
              rintro r w5 ⟨rfl, hb5⟩
              replace hb0 := hb0.trans (hb5.mono hb0.size)
              clear hb5
              go_wp2_with fail
              refine (c9 _).mono ?_
              rintro r w6 ⟨rfl, hb6⟩
              go_wp2
              go_ret
              exact ⟨rfl, hb0.trans (hb6.mono hb0.size)⟩
      | false =>
        have hz1 := hne rfl
        subst hz1
        go_wp2_with fail
        refine (cac _).mono ?_
        rintro r w4 ⟨rfl, hb4⟩
        replace hb0 := hb0.trans (hb4.mono hb0.size)
        clear hb4
        go_wp2_with fail
        refine (nb _).mono ?_
        rintro r w4 ⟨rfl, hb4⟩
        replace hb0 := hb0.trans (hb4.mono hb0.size)
        clear hb4
        cases nv with
        | false =>
          go_wp2_with fail
          refine (c9 _).mono ?_
          rintro r w6 ⟨rfl, hb6⟩
          go_wp2
          go_ret
          exact ⟨rfl, hb0.trans (hb6.mono hb0.size)⟩
        | true =>
          go_wp2_with fail
          refine (cab _).mono ?_
          rintro r w5 ⟨rfl, hb5⟩
          replace hb0 := hb0.trans (hb5.mono hb0.size)
          clear hb5
          by_cases hx : 0 < x
          · go_wp2_with fail
            refine (c9 _).mono ?_
            rintro r w6 ⟨rfl, hb6⟩
            go_wp2
            go_ret
            exact ⟨rfl, hb0.trans (hb6.mono hb0.size)⟩
          · go_wp2_with fail
            refine (cbc _).mono ?_
            rintro r w5 ⟨rfl, hb5⟩
            replace hb0 := hb0.trans (hb5.mono hb0.size)
            clear hb5
            by_cases hy : 0 < y
            · go_wp2_with fail
              refine (c9 _).mono ?_
              rintro r w6 ⟨rfl, hb6⟩
              go_wp2
              go_ret
              exact ⟨rfl, hb0.trans (hb6.mono hb0.size)⟩
            · have hk := HT.out (by first | rfl | trivial) (by omega) (by omega)
              subst hk
              go_wp2_with fail
              refine (kab _).mono ?_
              rintro r w5 ⟨rfl, hb5⟩
              replace hb0 := hb0.trans (hb5.mono hb0.size)
              clear hb5
              go_wp2_with fail
              refine (c9 _).mono ?_
              rintro r w6 ⟨rfl, hb6⟩
              go_wp2
              go_ret
              exact ⟨rfl, hb0.trans (hb6.mono hb0.size)⟩
  · have e := three_no hs
    rw [e] at cs
    have c9' := c9 (w.alloc (.cells #[.string a, .string b, .string c] 9))
    clear hs c9 hhas
    generalize hw1 : w.alloc (.cells #[.string a, .string b, .string c] 9) = w1 at *
    have HE := Lib.hid hw1
    go_enter Tryd.func5, Tryd.ntmps5
    go_wp2_with fail
    refine cs.mono ?_
    rintro r w' ⟨rfl, rfl⟩
    go_wp2_with fail
    refine c9'.mono ?_
    rintro r w2 ⟨rfl, hb2⟩
    go_wp2
    go_ret
    exact ⟨rfl, hb0.trans (hb2.mono hb0.size)⟩
end

section
open Go.RowKit

set_option maxHeartbeats 400000 in
theorem ownBytes_any (A : Option Addr) (len cap B : Nat) (l : List UInt8) (w : World) (hA : Has w B A len (l.map bv)) (hcap : A = none → cap = 0) (hlen : len ≤ 1000000000) (hB : B ≤ w.heap.size) :
    Calls Tryd.prog 11 #[.slice A len cap] w fun e w' => (∃ v, e = .returned v ∧ w'.ownsRow w.heap.size 5 1 v len (l.map bv)) ∧ Below w.heap.size w w' := by
  obtain ⟨i5, hi5, hz0, hz1, hz2⟩ := info_parts infoU8
  have hown := own_empty w 5
  have hb := (Below.refl w.heap.size w).alloc (Nat.le_refl _) (.cells #[] 5)
  have hA' := hA.alloc hB (.cells #[] 5)
  clear hA
  go_enter Tryd.func11, Tryd.ntmps11
  go_wp2_with (at_builtin; refine wpList_app_has _ rfl _ _ 24 rfl w.heap.size 5 i5 (.int .u8 0) 1 tyBs hi5 hz0 hz1 hz2 rfl _ _ _ (by exact rfl) hown A len cap _ (l.map bv) (by exact rfl) hcap hA' (one_bytes l) (by unfold maxLen; omega) (by omega) hb (Nat.le_refl _) ?_; intro v' w' hown' hb' _)
  go_ret
  exact ⟨⟨v', rfl, by simpa using hown'⟩, hb'⟩
end

section
open Go.RowKit Go.Shelf

theorem eqPn_self (n : ByteArray) (s : Bool) (x : Int) : eqPn n n s s x x = true := by
  unfold eqPn
  simp
theorem pinE_len {p : Pv} (h : pinOk p = true) : (pinE p).length ≤ 400 := by
  have h1 := vn_len (pinOk_iff.1 h).1
  unfold pinE encT
  have h2 := enc_len p.host.length
  have h3 := enc_len (subN p.sub)
  have h4 := enc_len p.exp.toNat
  simp only [List.length_append]
  omega

set_option maxRecDepth 20000 in
set_option maxHeartbeats 8000000 in
theorem walkPnRt (hV : PnVal 10) (hE : PnEnc 8) (hD : PnDec 7) (hC : PnCmp 13) (n : ByteArray) (s : Bool) (x : Int) (A : Option Addr) (len cap : Nat) (w : World) (_ : n.size ≤ maxLen ∧ (Lit.int .i64 x).wf = true) (h8 : ∃ l, Arg8 w A len cap l) :
    Calls Tryd.prog 3 #[.agg #[.string n, .bool s, .int .i64 x], .slice A len cap] w (Yes w) := by
  have c9 := fun W => awake22_any hV hE hD hC W
  obtain ⟨l, h8⟩ := h8
  obtain ⟨i5, hi5, hz0, hz1, hz2⟩ := info_parts infoU8
  have HA8 := Lib.hid h8
  have HL : Hid (l.length = len) := Lib.hid h8.len
  have hlc := h8.2.1
  have hcap := h8.2.2.1
  clear h8
  by_cases hn : (n.size : Int) ≤ 400
  · by_cases hl : (len : Int) ≤ 5000
    · have hn' : ¬ (400 : Int) < (n.size : Int) := by omega
      have hl' : ¬ (5000 : Int) < (len : Int) := by omega
      have cP := fun W => hE n s x W (by omega)
      have cV := fun W => hV n s x W (by omega)
      go_enter Tryd.func3, Tryd.ntmps3
      go_wp2_with (first
        | (refine wpList_box_arr _ rfl 2 rfl _ _ rfl _ #[.string n, .bool s, .int .i64 x] (by exact rfl) (by exact rfl) ?_; intro W1 g1 hg1 hl1 hR1 hG1; have hR1 : RowPn W1 g1 n s x := hR1; obtain ⟨x0, x1, x2⟩ := RowPn.cells hR1))
      have hb1 := below_row0 (Below.refl w.heap.size w) hG1 (Nat.le_refl _)
      have cD := hD A len cap _ l W1 (HA8.out.1.below hb1) hlc hcap (by omega) hb1.size
      by_cases he : pdE l = 0
      · have hd : (pinDec l).2.2 = 0 := by unfold pdE at he; omega
        obtain ⟨k1, k2, k3⟩ := pin_canon hd
        obtain ⟨K, hK⟩ : ∃ K, (pinDec l).2.1 = K := ⟨_, rfl⟩
        have eN : pdN l = (K : Int) := by unfold pdN; rw [hK]
        rw [hK, HL.out] at k3
        rw [hK] at k2
        have hK1 : 1 ≤ K := by
          rcases Nat.eq_zero_or_pos K with h0 | h0
          · exfalso
            rw [h0, List.take_zero] at k2
            have := congrArg List.length k2
            unfold pinE encT enc encF at this
            simp only [List.length_append, List.length_nil] at this
            split at this <;> simp at this
          · exact h0
        have eP : (⟨ls (pdH l), pdS l, pdX l⟩ : Pv) = (pinDec l).1 := rfl
        have hHs : (pdH l).size ≤ 253 := by
          have := vn_len (pinOk_iff.1 k1).1
          unfold pdH
          rw [bs_size]
          exact this
        have cE := fun W => hE (pdH l) (pdS l) (pdX l) W (by omega)
        rw [eP, enc_yes k1] at cE
        simp only [k2] at cE
        rw [eN, he] at cD
        generalize pdH l = ph at *
        generalize pdS l = ps at *
        generalize pdX l = px at *
        clear k1 k2 eP hd eN
        have hKn : ¬ (len : Int) < (K : Int) := by omega
        have hKc : K ≤ cap := by omega
        have hLK : (l.take K).length = K := by rw [List.length_take, HL.out]; omega
        refine cD.mono ?_
        rintro e w2 ⟨rfl, hb2⟩
        have hR2 : RowPn w2 g1 n s x := Row.below hR1 hb2 hl1
        have hb3 := hb1.trans (hb2.mono hb1.size)
        go_wp2_with (first
          | (refine wpList_alloc_arr _ rfl 5 rfl _ rfl _ zeroPn ?_; intro Wa g5 hga hla hRa hGa; have hRa : RowPn Wa g5 ⟨#[]⟩ false 0 := hRa)
          | (refine wpList_store_pn rfl rfl _ _ rfl g5 (by exact rfl) ph ps px (by exact rfl) _ _ _ hRa ?_
             intro Wb hRb hGb
             have ba := below_row0 (Below.refl w2.heap.size w2) hGa (Nat.le_refl _)
             have bb := below_row ba hGb (Nat.le_refl _) hga
             have hRc : RowPn Wb g1 n s x := Row.below hR2 bb (Row.lt hR2)
             have hb4 := hb3.trans (bb.mono hb3.size)
             clear ba bb hGa hGb)
          | (refine wpList_load_pn (by rfl) _ rfl g5 (by exact rfl) _ _ _ hRb ?_))
        refine (cE _).mono ?_
        rintro e w5 ⟨⟨v, rfl, ho⟩, hb5⟩
        have hR5 : RowPn w5 g1 n s x := Row.below hRc hb5 (Row.lt hRc)
        have hb6 := hb4.trans (hb5.mono hb4.size)
        rw [hLK] at ho
        obtain ⟨A3, k3', rfl, hh3, hn3⟩ := Has.of_own ho
        have ht := (HA8.out.1.take K (by omega)).below' hb6 (Nat.le_refl _)
        rw [← List.map_take] at ht
        have ht := ht.more (B' := w5.heap.size) hb6.size
        have cB := fun k => bytes_any A3 A K k3' K k w5.heap.size (l.take K) (l.take K) w5 hh3 ht
        rw [show eqL (l.take K) (l.take K) = true by unfold eqL; simp] at cB
        clear ho hh3 ht cE cD hb5 hb2 hRa hRb hRc
        have hi0 : (0 : Int) ≤ (K : Int) := by omega
        go_wp2_with fail
        refine (cB _).mono ?_
        rintro e w' ⟨rfl, rfl⟩
        clear cB
        have hb0 := hb6
        have hR := hR5
        clear hb6 hR5 hb4 hb3 hb1 hR2 hR1 x0 x1 x2
        go_wp2_with (first | (refine wpList_load_pn (by rfl) _ rfl g1 (by exact rfl) _ _ _ hR ?_))
        refine (cP _).mono ?_
        rintro e w3 ⟨⟨v, rfl, ho⟩, hb3⟩
        have hR3 : RowPn w3 g1 n s x := Row.below hR hb3 (Row.lt hR)
        have hb4 := hb0.trans (hb3.mono hb0.size)
        clear hR hb3 hb0
        cases hp : pinOk ⟨ls n, s, x⟩ with
        | false =>
          rw [enc_no hp] at ho ⊢
          rw [hp] at cV
          clear ho cP
          go_wp2_with (first | (refine wpList_load_pn (by rfl) _ rfl g1 (by exact rfl) _ _ _ hR3 ?_))
          refine (cV _).mono ?_
          rintro e w5 ⟨rfl, hb5⟩
          have hb6 := hb4.trans (hb5.mono hb4.size)
          go_wp2_with fail
          refine (c9 _).mono ?_
          rintro e w7 ⟨rfl, hb7⟩
          go_wp2
          go_ret
          exact ⟨rfl, hb6.trans (hb7.mono hb6.size)⟩
        | true =>
          have HP := Lib.hid hp
          have hpl : (pinE ⟨ls n, s, x⟩).length ≤ 400 := pinE_len hp
          rw [enc_yes hp] at ho ⊢
          obtain ⟨A3, k3, rfl, hh3, hn3⟩ := Has.of_own ho
          have hm3 := of_own_none ho
          change Has w3 w3.heap.size A3 (pinE ⟨ls n, s, x⟩).length ((pinE ⟨ls n, s, x⟩).map bv) at hh3
          have hX : PdR (pinE ⟨ls n, s, x⟩ ++ l) n s x (pinE ⟨ls n, s, x⟩).length 0 := by
            have := pdr_of (pin_back hp l)
            rw [bs_ls] at this
            exact this
          generalize pinE ⟨ls n, s, x⟩ = E at *
          clear hp ho cV cP
          go_wp2_with fail
          refine (ownBytes_any A3 E.length k3 w3.heap.size E _ hh3 hm3 (by omega) (Nat.le_refl _)).mono ?_
          rintro e w5 ⟨⟨v5, rfl, ho5⟩, hb5⟩
          have hR5 : RowPn w5 g1 n s x := Row.below hR3 hb5 (Row.lt hR3)
          have hb6 := hb4.trans (hb5.mono hb4.size)
          have hr6 := HA8.out.1.below hb6
          have q6 := (Below.refl w5.heap.size w5)
          go_wp2_with (first
            | (at_builtin
               refine wpList_app_has _ rfl _ _ 24 rfl w3.heap.size 5 i5 (.int .u8 0) 1 tyBs hi5 hz0 hz1 hz2 rfl _ _ _ (by exact rfl) ho5 A len cap _ (l.map bv) (by exact rfl) HA8.out.2.2.2 hr6 (one_bytes l) (by unfold maxLen; omega) (by omega) hb5 (Nat.le_refl _) ?_
               intro v7 w7 ho7 hb7 hg7
               obtain ⟨A7, k7, rfl, hh7, hn7⟩ := Has.of_own ho7
               have hm7 := own_cap ho7 _ _ _ rfl
               rw [← List.map_append] at hh7
               have hR7 : RowPn w7 g1 n s x := Row.below hR3 hb7 (Row.lt hR3)
               have hb8 := hb4.trans (hb7.mono hb4.size)))
          have cD2 := hD A7 (E.length + len) k7 _ (E ++ l) w7 hh7 hn7 hm7 (by omega) (Nat.le_refl _)
          obtain ⟨e1, e2, e3, e4, e5⟩ := hX
          rw [e1, e2, e3, e4, e5] at cD2
          clear e1 e2 e3 e4 e5 hh7 ho7 ho5 hr6 hg7
          refine cD2.mono ?_
          rintro e w9 ⟨rfl, hb9⟩
          have hR9 : RowPn w9 g1 n s x := Row.below hR7 hb9 (Row.lt hR7)
          have hb10 := hb8.trans (hb9.mono hb8.size)
          have heq : ∀ W, (binOp .eql 23 (.agg #[.string n, .bool s, .int .i64 x]) (.agg #[.string n, .bool s, .int .i64 x])).run Tryd.prog W = .ok (.bool true) W := fun W => by rw [eq_pn, eqPn_self]
          go_wp2_with (first
            | (refine wpList_alloc_arr _ rfl 12 rfl _ rfl _ zeroPn ?_; intro Wa g12 hga hla hRa hGa; have hRa : RowPn Wa g12 ⟨#[]⟩ false 0 := hRa)
            | (refine wpList_store_pn rfl rfl _ _ rfl g12 (by exact rfl) n s x (by exact rfl) _ _ _ hRa ?_
               intro Wb hRb hGb
               have ba := below_row0 (Below.refl w9.heap.size w9) hGa (Nat.le_refl _)
               have bb := below_row ba hGb (Nat.le_refl _) hga
               have hRc : RowPn Wb g1 n s x := Row.below hR9 bb (Row.lt hR9)
               have hb11 := hb10.trans (bb.mono hb10.size)
               clear ba bb hGa hGb)
            | (refine wpList_load_pn (by rfl) _ rfl g12 (by exact rfl) _ _ _ hRb ?_)
            | (refine wpList_load_pn (by rfl) _ rfl g1 (by exact rfl) _ _ _ hRc ?_))
          refine (c9 _).mono ?_
          rintro e w13 ⟨rfl, hb13⟩
          go_wp2
          go_ret
          exact ⟨rfl, hb11.trans (hb13.mono hb11.size)⟩
      · have he' : (pdE l == 0) = false := by simpa using he
        refine cD.mono ?_
        rintro e w2 ⟨rfl, hb2⟩
        generalize pdH l = ph at *
        generalize pdS l = ps at *
        generalize pdX l = px at *
        generalize pdN l = pn at *
        generalize pdE l = pe at *
        have hR2 : RowPn w2 g1 n s x := Row.below hR1 hb2 hl1
        have hb3 := hb1.trans (hb2.mono hb1.size)
        go_wp2_with (first
          | (refine wpList_alloc_arr _ rfl 5 rfl _ rfl _ zeroPn ?_; intro Wa g5 hga hla hRa hGa; have hRa : RowPn Wa g5 ⟨#[]⟩ false 0 := hRa)
          | (refine wpList_store_pn rfl rfl _ _ rfl g5 (by exact rfl) ph ps px (by exact rfl) _ _ _ hRa ?_
             intro Wb hRb hGb
             have ba := below_row0 (Below.refl w2.heap.size w2) hGa (Nat.le_refl _)
             have bb := below_row ba hGb (Nat.le_refl _) hga
             have hR : RowPn Wb g1 n s x := Row.below hR2 bb (Row.lt hR2)
             have hb0 := hb3.trans (bb.mono hb3.size)
             clear ba bb hGa hGb hRa hRb)
          | (refine wpList_load_pn (by rfl) _ rfl g1 (by exact rfl) _ _ _ hR ?_))
        clear hb3 hb1 hb2 hR2 hR1 x0 x1 x2 cD
        refine (cP _).mono ?_
        rintro e w3 ⟨⟨v, rfl, ho⟩, hb3⟩
        have hR3 : RowPn w3 g1 n s x := Row.below hR hb3 (Row.lt hR)
        have hb4 := hb0.trans (hb3.mono hb0.size)
        clear hR hb3 hb0
        cases hp : pinOk ⟨ls n, s, x⟩ with
        | false =>
          rw [enc_no hp] at ho ⊢
          rw [hp] at cV
          clear ho cP
          go_wp2_with (first | (refine wpList_load_pn (by rfl) _ rfl g1 (by exact rfl) _ _ _ hR3 ?_))
          refine (cV _).mono ?_
          rintro e w5 ⟨rfl, hb5⟩
          have hb6 := hb4.trans (hb5.mono hb4.size)
          go_wp2_with fail
          refine (c9 _).mono ?_
          rintro e w7 ⟨rfl, hb7⟩
          go_wp2
          go_ret
          exact ⟨rfl, hb6.trans (hb7.mono hb6.size)⟩
        | true =>
          have HP := Lib.hid hp
          have hpl : (pinE ⟨ls n, s, x⟩).length ≤ 400 := pinE_len hp
          rw [enc_yes hp] at ho ⊢
          obtain ⟨A3, k3, rfl, hh3, hn3⟩ := Has.of_own ho
          have hm3 := of_own_none ho
          change Has w3 w3.heap.size A3 (pinE ⟨ls n, s, x⟩).length ((pinE ⟨ls n, s, x⟩).map bv) at hh3
          have hX : PdR (pinE ⟨ls n, s, x⟩ ++ l) n s x (pinE ⟨ls n, s, x⟩).length 0 := by
            have := pdr_of (pin_back hp l)
            rw [bs_ls] at this
            exact this
          generalize pinE ⟨ls n, s, x⟩ = E at *
          clear hp ho cV cP
          go_wp2_with fail
          refine (ownBytes_any A3 E.length k3 w3.heap.size E _ hh3 hm3 (by omega) (Nat.le_refl _)).mono ?_
          rintro e w5 ⟨⟨v5, rfl, ho5⟩, hb5⟩
          have hR5 : RowPn w5 g1 n s x := Row.below hR3 hb5 (Row.lt hR3)
          have hb6 := hb4.trans (hb5.mono hb4.size)
          have hr6 := HA8.out.1.below hb6
          have q6 := (Below.refl w5.heap.size w5)
          go_wp2_with (first
            | (at_builtin
               refine wpList_app_has _ rfl _ _ 24 rfl w3.heap.size 5 i5 (.int .u8 0) 1 tyBs hi5 hz0 hz1 hz2 rfl _ _ _ (by exact rfl) ho5 A len cap _ (l.map bv) (by exact rfl) HA8.out.2.2.2 hr6 (one_bytes l) (by unfold maxLen; omega) (by omega) hb5 (Nat.le_refl _) ?_
               intro v7 w7 ho7 hb7 hg7
               obtain ⟨A7, k7, rfl, hh7, hn7⟩ := Has.of_own ho7
               have hm7 := own_cap ho7 _ _ _ rfl
               rw [← List.map_append] at hh7
               have hR7 : RowPn w7 g1 n s x := Row.below hR3 hb7 (Row.lt hR3)
               have hb8 := hb4.trans (hb7.mono hb4.size)))
          have cD2 := hD A7 (E.length + len) k7 _ (E ++ l) w7 hh7 hn7 hm7 (by omega) (Nat.le_refl _)
          obtain ⟨e1, e2, e3, e4, e5⟩ := hX
          rw [e1, e2, e3, e4, e5] at cD2
          clear e1 e2 e3 e4 e5 hh7 ho7 ho5 hr6 hg7
          refine cD2.mono ?_
          rintro e w9 ⟨rfl, hb9⟩
          have hR9 : RowPn w9 g1 n s x := Row.below hR7 hb9 (Row.lt hR7)
          have hb10 := hb8.trans (hb9.mono hb8.size)
          have heq : ∀ W, (binOp .eql 23 (.agg #[.string n, .bool s, .int .i64 x]) (.agg #[.string n, .bool s, .int .i64 x])).run Tryd.prog W = .ok (.bool true) W := fun W => by rw [eq_pn, eqPn_self]
          go_wp2_with (first
            | (refine wpList_alloc_arr _ rfl 12 rfl _ rfl _ zeroPn ?_; intro Wa g12 hga hla hRa hGa; have hRa : RowPn Wa g12 ⟨#[]⟩ false 0 := hRa)
            | (refine wpList_store_pn rfl rfl _ _ rfl g12 (by exact rfl) n s x (by exact rfl) _ _ _ hRa ?_
               intro Wb hRb hGb
               have ba := below_row0 (Below.refl w9.heap.size w9) hGa (Nat.le_refl _)
               have bb := below_row ba hGb (Nat.le_refl _) hga
               have hRc : RowPn Wb g1 n s x := Row.below hR9 bb (Row.lt hR9)
               have hb11 := hb10.trans (bb.mono hb10.size)
               clear ba bb hGa hGb)
            | (refine wpList_load_pn (by rfl) _ rfl g12 (by exact rfl) _ _ _ hRb ?_)
            | (refine wpList_load_pn (by rfl) _ rfl g1 (by exact rfl) _ _ _ hRc ?_))
          refine (c9 _).mono ?_
          rintro e w13 ⟨rfl, hb13⟩
          go_wp2
          go_ret
          exact ⟨rfl, hb11.trans (hb13.mono hb11.size)⟩
    · have hn' : ¬ (400 : Int) < (n.size : Int) := by omega
      have hl' : (5000 : Int) < (len : Int) := by omega
      go_enter Tryd.func3, Tryd.ntmps3
      go_wp2_with (first
        | (refine wpList_box_arr _ rfl 2 rfl _ _ rfl _ #[.string n, .bool s, .int .i64 x] (by exact rfl) (by exact rfl) ?_; intro W1 g1 hg1 hl1 hR1 hG1; have hR1 : RowPn W1 g1 n s x := hR1; obtain ⟨x0, x1, x2⟩ := RowPn.cells hR1))
      have hb1 := below_row0 (Below.refl w.heap.size w) hG1 (Nat.le_refl _)
      refine (c9 _).mono ?_
      rintro e w2 ⟨rfl, hb2⟩
      go_wp2
      go_ret
      exact ⟨rfl, hb1.trans (hb2.mono hb1.size)⟩
  · have hn' : (400 : Int) < (n.size : Int) := by omega
    go_enter Tryd.func3, Tryd.ntmps3
    go_wp2_with (first
      | (refine wpList_box_arr _ rfl 2 rfl _ _ rfl _ #[.string n, .bool s, .int .i64 x] (by exact rfl) (by exact rfl) ?_; intro W1 g1 hg1 hl1 hR1 hG1; have hR1 : RowPn W1 g1 n s x := hR1; obtain ⟨x0, x1, x2⟩ := RowPn.cells hR1))
    have hb1 := below_row0 (Below.refl w.heap.size w) hG1 (Nat.le_refl _)
    refine (c9 _).mono ?_
    rintro e w2 ⟨rfl, hb2⟩
    go_wp2
    go_ret
    exact ⟨rfl, hb1.trans (hb2.mono hb1.size)⟩
end

section
open Go.RowKit

theorem pnTyS : Tryd.prog.underlying 9 = some .string := by kernel_rfl
theorem pnTyB : Tryd.prog.underlying 4 = some .bool := by kernel_rfl
theorem pnTyI : Tryd.prog.underlying 3 = some (.int .i64) := by kernel_rfl
open Go.ChangeShapes Go.WideShapes Go.ChangeMaps in
set_option maxRecDepth 100000 in
theorem open_pn {H : Type} {enc : TypeId × Value → H} {W : World} {base : Nat} {held : Bool} {v : Value} {d : DataW H} {p : List MemPlace} (hval : Value.okWide Tryd.prog W .any base 23 v) (h : DataW.Trod enc Tryd.prog W 0 (fun _ => true) held 23 v d p) :
    ∃ (n : ByteArray) (s : Bool) (x : Int), v = .agg #[.string n, .bool s, .int .i64 x] ∧ n.size ≤ maxLen ∧ (Lit.int .i64 x).wf = true := by
  obtain ⟨cs, rfl, hsz⟩ := Go.WideShapes.okWide_struct Tryd.underlying23 hval
  have hc3 : Tryd.prog.cellsOf 23 = 3 := by kernel_rfl
  have hcs : Tryd.prog.cellsOf 9 = 1 := by kernel_rfl
  have hcb : Tryd.prog.cellsOf 4 = 1 := by kernel_rfl
  have hci : Tryd.prog.cellsOf 3 = 1 := by kernel_rfl
  rw [hc3] at hsz
  obtain ⟨l⟩ := cs
  obtain ⟨u0, u1, u2, rfl⟩ : ∃ u0 u1 u2, l = [u0, u1, u2] := by
    match l, hsz with
    | [u0, u1, u2], _ => exact ⟨u0, u1, u2, rfl⟩
  obtain ⟨fuel, hf⟩ := h
  obtain ⟨ys, n', _, _, _, hyl, hg⟩ := DataW.trod_struct Tryd.underlying23 hf
  obtain ⟨y0, y1, y2, rfl⟩ : ∃ y0 y1 y2, ys = [y0, y1, y2] := by
    match ys, hyl with
    | [y0, y1, y2], _ => exact ⟨y0, y1, y2, rfl⟩
  have s0 : DataW.trod enc Tryd.prog W 0 (fun _ => true) held n' 9 [u0] = some y0 := by
    have := hg 0 _ rfl
    change DataW.trod _ _ _ _ _ _ _ 9 (List.take (Tryd.prog.cellsOf 9) _) = _ at this
    rw [hcs] at this
    exact this
  have s1 : DataW.trod enc Tryd.prog W 0 (fun _ => true) held n' 4 [u1] = some y1 := by
    have := hg 1 _ rfl
    change DataW.trod _ _ _ _ _ _ _ 4 (List.take (Tryd.prog.cellsOf 4) _) = _ at this
    rw [hcb] at this
    exact this
  have s2 : DataW.trod enc Tryd.prog W 0 (fun _ => true) held n' 3 [u2] = some y2 := by
    have := hg 2 _ rfl
    change DataW.trod _ _ _ _ _ _ _ 3 (List.take (Tryd.prog.cellsOf 3) _) = _ at this
    rw [hci] at this
    exact this
  obtain ⟨x0, e0, _, w0⟩ := DataW.trod_string pnTyS s0
  obtain ⟨x1, e1, _⟩ := DataW.trod_bool pnTyB s1
  obtain ⟨x2, e2, _, w2⟩ := DataW.trod_int pnTyI s2
  simp at e0 e1 e2
  subst e0 e1 e2
  exact ⟨x0, x1, x2, rfl, w0, w2⟩
end

section
open Go.RowKit Go.ChangeShapes Go.WideShapes Go.Deep

theorem opn8_b {H : Type} {enc : TypeId × Value → H} {w : World} {held : Bool} {fuel : Nat} {A : Option Addr} {n c : Nat} {x : DataW H × List MemPlace} (h : DataW.trod enc Tryd.prog w 0 (fun _ => true) held fuel 24 [.slice A n c] = some x) : ∃ l, Arg8 w A n c l := by
  rcases open_ints tyBs tyU8 (by kernel_rfl) h with ⟨hcs, _⟩ | ⟨y, l, c', zs, hcs, _, hl, hm, hz, _, hcell, hwz⟩
  · simp at hcs
    obtain ⟨rfl, rfl, rfl⟩ := hcs
    exact arg8_of (zs := []) (.inl ⟨rfl, rfl, rfl, rfl⟩)
  · simp at hcs
    obtain ⟨rfl, rfl, rfl⟩ := hcs
    exact arg8_of (zs := zs) (.inr ⟨_, rfl, hl, hm, by simpa using hz, hcell, hwz⟩)
end

section
open Go.RowKit

theorem kRC : PnCmp 14 := refCmp_any
theorem kK : HoCov 15 := refCovers_any
theorem kN : HoVn 16 := refVn_any
end

section
open Go.RowKit

/-- The list of the rows: the same for all of them. -/
abbrev laid4 : List (String × DataW Unit) := Rows.pinRoundTripRow.laid
theorem acc_data : (Rows.laid_unicode_utf8_acceptRanges : DataW Unit) = Lib.acceptData := by kernel_rfl
theorem fst_data : (Rows.laid_unicode_utf8_first : DataW Unit) = Lib.firstData := Pinned.utf8First_eq
theorem u8_extra : U8Extra Tryd.prog Tryd.lays197_ren := ⟨by kernel_rfl, by kernel_rfl, by kernel_rfl, by kernel_rfl, by kernel_rfl, by kernel_rfl, by kernel_rfl⟩
theorem u8_of_laid {W : World} (h : laidMetH Tryd.prog laid4 W) : U8 W := by
  rw [MakeChecks.laidMetH_plain _ _ _ (by kernel_rfl)] at h
  exact utf8Tabs_of_reads { Tryd.lays197 with } u8_extra (fst_data ▸ Lib.laidMet.reads h (.tail _ (.head _))) (acc_data ▸ Lib.laidMet.reads h (.head _))
end

end Go.Proofs.YthoolifdmemceaaDoor
