/-
Package pin: Decode.
What package pin's functions do, as the walks of the statements ask it.
The fixed examples of the statements of layer 22 (awake) hold.
Types of lists of strings; no function of the program.
Contract of Split of the reference of layer 1.
Lists of strings in memory: no function of the program.
The reference's Compare of layer 22.
Contract of the helper Short of the statements (package hstsstorekeep).
-/
import Derived.Test.YthoolifdmemceaaDoorB24
import Derived.Test.YthoolifdmemceaaDoorB25
import Derived.Test.YthoolifdmemceaaDoorB22
import Derived.Test.YthoolifdmemceaaDoorB10
import Derived.Test.YthoolifdmemceaaDoorRows
import Derived.Test.YthoolifdmemceaaDoorB02
import Derived.Test.YthoolifdmemceaaDoorB00
import Derived.BigQuiet
import Derived.Deep.QuietTactic
import Derived.WalkSmall
namespace Go.Proofs.YthoolifdmemceaaDoor
section
open Go.RowKit Go.Shelf

/-- What decoding gives, as the walk's values. -/
def pdH (l : List UInt8) : ByteArray := bs (pinDec l).1.host
def pdS (l : List UInt8) : Bool := (pinDec l).1.sub
def pdX (l : List UInt8) : Int := (pinDec l).1.exp
def pdN (l : List UInt8) : Int := ((pinDec l).2.1 : Int)
def pdE (l : List UInt8) : Int := ((pinDec l).2.2 : Int)
def PdR (l : List UInt8) (h : ByteArray) (s : Bool) (x n e : Int) : Prop := pdH l = h ∧ pdS l = s ∧ pdX l = x ∧ pdN l = n ∧ pdE l = e
theorem pdr_of {l : List UInt8} {h : List UInt8} {s : Bool} {x : Int} {n e : Nat} (hd : pinDec l = (⟨h, s, x⟩, n, e)) : PdR l (bs h) s x n e := by
  unfold PdR pdH pdS pdX pdN pdE
  rw [hd]
  exact ⟨rfl, rfl, rfl, rfl, rfl⟩
theorem pdr_1 {l : List UInt8} (h : dte l ≠ 0) : PdR l (bs []) false 0 0 (dte l) := by
  unfold dte at h ⊢
  exact pdr_of (n := 0) (h := []) (by unfold pinDec; rw [if_pos (by omega)]; rfl)
section
variable {l : List UInt8} {K M : Nat} (h1 : dte l = 0) (hK : dtn l = (K : Int))
include h1 hK
theorem pdr_2 (h2 : de (l.drop K) ≠ 0) : PdR l (bs []) false 0 0 (de (l.drop K)) := by
  unfold dte at h1
  unfold dtn at hK
  obtain rfl : (decT l).2.1 = K := by omega
  unfold de at h2 ⊢
  exact pdr_of (n := 0) (h := []) (by unfold pinDec; rw [if_neg (by omega), if_pos (by omega)]; rfl)
theorem pdr_3 (h2 : de (l.drop K) = 0) (h3 : 1 < dv (l.drop K)) : PdR l (bs []) false 0 0 6 := by
  unfold dte at h1
  unfold dtn at hK
  obtain rfl : (decT l).2.1 = K := by omega
  unfold de at h2
  unfold dv at h3
  exact pdr_of (n := 0) (h := []) (e := 6) (by unfold pinDec; rw [if_neg (by omega), if_neg (by omega), if_pos (by omega)]; rfl)
variable (h2 : de (l.drop K) = 0) (h3 : ¬ 1 < dv (l.drop K)) (hM : dn (l.drop K) = (M : Int))
include h2 h3 hM
theorem pdr_4 (h4 : de (l.drop (K + M)) ≠ 0) : PdR l (bs []) false 0 0 (de (l.drop (K + M))) := by
  unfold dte at h1
  unfold dtn at hK
  obtain rfl : (decT l).2.1 = K := by omega
  unfold de at h2
  unfold dv at h3
  unfold dn at hM
  obtain rfl : (dec (l.drop (decT l).2.1)).2.1 = M := by omega
  unfold de at h4 ⊢
  exact pdr_of (n := 0) (h := []) (by unfold pinDec; rw [if_neg (by omega), if_neg (by omega), if_neg (by omega), if_pos (by omega)]; rfl)
variable (h4 : de (l.drop (K + M)) = 0)
include h4
theorem pdr_5 (h5 : 1099511627776 < dv (l.drop (K + M))) : PdR l (bs []) false 0 0 2 := by
  unfold dte at h1
  unfold dtn at hK
  obtain rfl : (decT l).2.1 = K := by omega
  unfold de at h2
  unfold dv at h3
  unfold dn at hM
  obtain rfl : (dec (l.drop (decT l).2.1)).2.1 = M := by omega
  unfold de at h4
  unfold dv at h5
  exact pdr_of (n := 0) (h := []) (e := 2) (by unfold pinDec; rw [if_neg (by omega), if_neg (by omega), if_neg (by omega), if_neg (by omega), if_pos (by omega)]; rfl)
variable (h5 : ¬ 1099511627776 < dv (l.drop (K + M)))
include h5
theorem pdr_6 (h6 : vnL (ls (dt l)) = false) : PdR l (bs []) false 0 0 14 := by
  unfold dte at h1
  unfold dtn at hK
  obtain rfl : (decT l).2.1 = K := by omega
  unfold de at h2
  unfold dv at h3
  unfold dn at hM
  obtain rfl : (dec (l.drop (decT l).2.1)).2.1 = M := by omega
  unfold de at h4
  unfold dv at h5
  unfold dt at h6
  rw [ls_bs] at h6
  exact pdr_of (n := 0) (h := []) (e := 14) (by unfold pinDec; rw [if_neg (by omega), if_neg (by omega), if_neg (by omega), if_neg (by omega), if_neg (by omega), if_pos h6]; rfl)
theorem pdr_7 (h6 : vnL (ls (dt l)) = true) : PdR l (dt l) (dv (l.drop K) == 1) (dv (l.drop (K + M))) ((K : Int) + M + dn (l.drop (K + M))) 0 := by
  unfold dte at h1
  unfold dtn at hK
  obtain rfl : (decT l).2.1 = K := by omega
  unfold de at h2
  unfold dv at h3
  unfold dn at hM
  obtain rfl : (dec (l.drop (decT l).2.1)).2.1 = M := by omega
  unfold de at h4
  unfold dv at h5
  unfold dt at h6
  rw [ls_bs] at h6
  have h := pdr_of (l := l) (h := (decT l).1) (s := decide ((dec (l.drop (decT l).2.1)).1 = 1)) (x := ((dec (l.drop ((decT l).2.1 + (dec (l.drop (decT l).2.1)).2.1))).1 : Int)) (n := (decT l).2.1 + (dec (l.drop (decT l).2.1)).2.1 + (dec (l.drop ((decT l).2.1 + (dec (l.drop (decT l).2.1)).2.1))).2.1) (e := 0)
    (by unfold pinDec; rw [if_neg (by omega), if_neg (by omega), if_neg (by omega), if_neg (by omega), if_neg (by omega), if_neg (by rw [h6]; decide)])
  have es : (dv (l.drop (decT l).2.1) == 1) = decide ((dec (l.drop (decT l).2.1)).1 = 1) := by
    unfold dv
    rw [Bool.eq_iff_iff, beq_iff_eq, decide_eq_true_iff]
    omega
  rw [es]
  obtain ⟨e1, e2, e3, e4, e5⟩ := h
  refine ⟨e1, e2, by unfold dv; exact e3, ?_, e5⟩
  rw [e4]
  unfold dn
  push_cast
  rfl
end
theorem de_nil : de [] = 5 := by unfold de; rfl

def PnDec (F : FuncId) : Prop := ∀ (A : Option Addr) (len cap B : Nat) (l : List UInt8) (w : World), Has w B A len (l.map bv) → len ≤ cap → cap ≤ maxLen → len ≤ 1000000000 → B ≤ w.heap.size →
  Calls Tryd.prog F #[.slice A len cap] w fun e w' => e = .returned (.tuple #[.agg #[.string (pdH l), .bool (pdS l), .int .i64 (pdX l)], .int .i64 (pdN l), .int .i64 (pdE l)]) ∧ Below w.heap.size w w'

theorem pd_end {l : List UInt8} {h : ByteArray} {s : Bool} {x n e : Int} (hr : PdR l h s x n e) : Ending.returned (.tuple #[.agg #[.string h, .bool s, .int .i64 x], .int .i64 n, .int .i64 e]) = .returned (.tuple #[.agg #[.string (pdH l), .bool (pdS l), .int .i64 (pdX l)], .int .i64 (pdN l), .int .i64 (pdE l)]) := by
  obtain ⟨rfl, rfl, rfl, rfl, rfl⟩ := hr
  rfl
theorem has_from {w : World} {B n b off : Nat} {l : List UInt8} (h : Has w B (some ⟨b, off, none⟩) n (l.map bv)) (s : Nat) (hs : s ≤ n) : Has w B (some ⟨b, off + s, none⟩) (n - s) ((l.drop s).map bv) := by
  have hl : l.length = n := by simpa using h.1
  have hp := h.part s (n - s) (by omega)
  rw [← List.map_drop, List.take_of_length_le (by rw [List.length_map, List.length_drop]; omega)] at hp
  exact hp

set_option maxRecDepth 20000 in
set_option maxHeartbeats 4000000 in
theorem pnDec_any (hV : HoVn 19) : PnDec 7 := by
  intro A len cap B l w hA hlc hcap hlen hB
  have HL : Hid (l.length = len) := by show _ = _; simpa using hA.1
  have ht0 : 0 ≤ dte l := by unfold dte; omega
  go_enter Tryd.func7, Tryd.ntmps7
  go_wp2_with (first | (refine wpList_alloc_arr _ rfl 2 rfl _ rfl _ zeroPn ?_; intro W1 g1 hg1 hl1 hR1 hG1; have hR1 : RowPn W1 g1 ⟨#[]⟩ false 0 := hR1))
  have hb1 := below_row0 (Below.refl w.heap.size w) hG1 (Nat.le_refl _)
  have HB1 := Lib.hid hb1
  have HA := Lib.hid (hA.below' hb1 hB)
  have hB1 : B ≤ W1.heap.size := Nat.le_trans hB hb1.size
  have c1 := text_any A len cap B l W1 HA.out hlc hcap hlen
  clear hA hG1 hb1
  by_cases h1 : dte l = 0
  · obtain ⟨q1, q2, q3, q4⟩ := t_zero h1
    obtain ⟨K, hK⟩ : ∃ K : Nat, dtn l = (K : Int) := ⟨(dtn l).toNat, by omega⟩
    rw [HL.out] at q2
    rw [hK] at q1 q2
    clear q3
    rw [h1, hK] at c1
    have hKl : K ≤ len := by omega
    have hKc : K ≤ cap := by omega
    have cv := fun W => hV (dt l) W (by omega)
    have H1 := Lib.hid h1
    have HK := Lib.hid hK
    clear h1 hK ht0
    by_cases hcs : cap = K
    · have hd : l.drop K = [] := List.drop_of_length_le (by rw [HL.out]; omega)
      have hR := pdr_2 H1.out HK.out (by rw [hd, de_nil]; decide)
      rw [hd, de_nil] at hR
      have HR := Lib.hid hR
      have c2 := fun (ad : Addr) (W : World) => uint_any (some ad) 0 0 W.heap.size [] W (Has.nil _ _ _) (Nat.le_refl _) (by omega)
      rw [de_nil] at c2
      obtain rfl : len = K := by omega
      subst hcs
      clear hd hR cv
      obtain ⟨b, off, rfl⟩ : ∃ b off, A = some ⟨b, off, none⟩ := by
        obtain ⟨b, off, e, _⟩ := HA.out.at_ (show 0 < cap by omega)
        exact ⟨b, off, e⟩
      refine c1.mono ?_
      rintro e w' ⟨rfl, rfl⟩
      go_wp2_with fail
      refine (c2 _ _).mono ?_
      rintro e w' ⟨rfl, rfl⟩
      go_wp2_with (first | (refine wpList_store_pn rfl rfl _ _ rfl g1 (by exact rfl) ⟨#[]⟩ false 0 (by exact rfl) _ _ _ hR1 ?_; intro W9 hR9 hG9))
      have hb9 := below_row HB1.out hG9 (Nat.le_refl _) hg1
      refine ret_pn3 2 3 4 rfl g1 rfl _ _ _ hR9 _ _ rfl rfl rfl ⟨pd_end HR.out, hb9⟩

    · obtain ⟨b, off, rfl⟩ : ∃ b off, A = some ⟨b, off, none⟩ := by
        obtain ⟨b, off, e, _⟩ := HA.out.at_ (show 0 < len by omega)
        exact ⟨b, off, e⟩
      have hp := has_from HA.out K hKl
      have c2 := uint_any _ (len - K) (cap - K) B (l.drop K) W1 hp (by omega) (by omega)
      have hcs' : ¬ cap - K = 0 := by omega
      have hd1 : (l.drop K).length = len - K := by rw [List.length_drop, HL.out]
      have P2 := Lib.hid (pdr_2 H1.out HK.out)
      have P3 := Lib.hid (pdr_3 H1.out HK.out)
      have f0 := de_ge (l.drop K)
      have f1 := dv_ge (l.drop K)
      have f2 := dv_lt (l.drop K)
      have f3 := dn_ge (l.drop K)
      have fz := fun h => @d_zero (l.drop K) h
      rw [hd1] at fz
      clear hp hd1
      by_cases h2 : de (l.drop K) = 0
      · obtain ⟨_, q5, q6, q7, _⟩ := fz h2
        obtain ⟨M, hM⟩ : ∃ M : Nat, dn (l.drop K) = (M : Int) := ⟨(dn (l.drop K)).toNat, by omega⟩
        rw [hM] at q5 q6 q7
        rw [h2, hM] at c2
        by_cases h3 : 1 < dv (l.drop K)
        · have HR := Lib.hid (P3.out h2 h3)
          generalize dv (l.drop K) = z at *
          clear hM h2 fz f0 f3 q5 q6 q7
          refine c1.mono ?_
          rintro e w' ⟨rfl, rfl⟩
          go_wp2_with fail
          refine c2.mono ?_
          rintro e w' ⟨rfl, rfl⟩
          go_wp2_with (first | (refine wpList_store_pn rfl rfl _ _ rfl g1 (by exact rfl) ⟨#[]⟩ false 0 (by exact rfl) _ _ _ hR1 ?_; intro W9 hR9 hG9))
          have hb9 := below_row HB1.out hG9 (Nat.le_refl _) hg1
          refine ret_pn3 2 3 4 rfl g1 rfl _ _ _ hR9 _ _ rfl rfl rfl ⟨pd_end HR.out, hb9⟩

        · obtain ⟨E, hE⟩ : ∃ E, E = K + M := ⟨_, rfl⟩
          have hsum : (K : Int) + (M : Int) = (E : Int) := by omega
          have hEl : E ≤ len := by omega
          have hEc : E ≤ cap := by omega
          have g4 := fun h => pdr_4 H1.out HK.out h2 h3 hM h
          have g5 := fun h4 h5 => pdr_5 H1.out HK.out h2 h3 hM h4 h5
          have g6 := fun h4 h5 h6 => pdr_6 H1.out HK.out h2 h3 hM h4 h5 h6
          have g7 := fun h4 h5 h6 => pdr_7 H1.out HK.out h2 h3 hM h4 h5 h6
          rw [← hE] at g4 g5 g6 g7
          rw [hsum] at g7
          clear hE
          generalize dv (l.drop K) = z at *
          clear hM h2 fz f0 f3 P2 P3
          by_cases hce : cap = E
          · have hd : l.drop E = [] := List.drop_of_length_le (by rw [HL.out]; omega)
            have hR := g4 (by rw [hd, de_nil]; decide)
            rw [hd, de_nil] at hR
            have HR := Lib.hid hR
            have c3 := fun (ad : Addr) (W : World) => uint_any (some ad) 0 0 W.heap.size [] W (Has.nil _ _ _) (Nat.le_refl _) (by omega)
            rw [de_nil] at c3
            obtain rfl : len = E := by omega
            subst hce
            clear hd hR cv g4 g5 g6 g7
            refine c1.mono ?_
            rintro e w' ⟨rfl, rfl⟩
            go_wp2_with fail
            refine c2.mono ?_
            rintro e w' ⟨rfl, rfl⟩
            go_wp2_with fail
            refine (c3 _ _).mono ?_
            rintro e w' ⟨rfl, rfl⟩
            go_wp2_with (first | (refine wpList_store_pn rfl rfl _ _ rfl g1 (by exact rfl) ⟨#[]⟩ false 0 (by exact rfl) _ _ _ hR1 ?_; intro W9 hR9 hG9))
            have hb9 := below_row HB1.out hG9 (Nat.le_refl _) hg1
            refine ret_pn3 2 3 4 rfl g1 rfl _ _ _ hR9 _ _ rfl rfl rfl ⟨pd_end HR.out, hb9⟩

          · have hp := has_from HA.out E hEl
            have c3 := uint_any _ (len - E) (cap - E) B (l.drop E) W1 hp (by omega) (by omega)
            have hce' : ¬ cap - E = 0 := by omega
            have k0 := de_ge (l.drop E)
            have k1 := dv_ge (l.drop E)
            have k2 := dv_lt (l.drop E)
            have k3 := dn_ge (l.drop E)
            have kz := fun h => (@d_zero (l.drop E) h).2.2.2.1
            clear hp
            generalize dv (l.drop E) = x at *
            generalize dn (l.drop E) = y at *
            generalize de (l.drop E) = r at *
            by_cases h4 : r = 0
            · have hy := kz h4
              subst h4
              by_cases h5 : 1099511627776 < x
              · have HR := Lib.hid (g5 rfl h5)
                clear g4 g5 g6 g7 cv kz
                refine c1.mono ?_
                rintro e w' ⟨rfl, rfl⟩
                go_wp2_with fail
                refine c2.mono ?_
                rintro e w' ⟨rfl, rfl⟩
                go_wp2_with fail
                refine c3.mono ?_
                rintro e w' ⟨rfl, rfl⟩
                go_wp2_with (first | (refine wpList_store_pn rfl rfl _ _ rfl g1 (by exact rfl) ⟨#[]⟩ false 0 (by exact rfl) _ _ _ hR1 ?_; intro W9 hR9 hG9))
                have hb9 := below_row HB1.out hG9 (Nat.le_refl _) hg1
                refine ret_pn3 2 3 4 rfl g1 rfl _ _ _ hR9 _ _ rfl rfl rfl ⟨pd_end HR.out, hb9⟩

              · have hx : x ≤ 1099511627776 := by omega
                cases hv : vnL (ls (dt l)) with
                | false =>
                  have HR := Lib.hid (g6 rfl h5 hv)
                  rw [hv] at cv
                  clear g4 g5 g6 g7 kz hv
                  refine c1.mono ?_
                  rintro e w' ⟨rfl, rfl⟩
                  go_wp2_with fail
                  refine c2.mono ?_
                  rintro e w' ⟨rfl, rfl⟩
                  go_wp2_with fail
                  refine c3.mono ?_
                  rintro e w' ⟨rfl, rfl⟩
                  go_wp2_with fail
                  refine (cv _).mono ?_
                  rintro e w2 ⟨rfl, hb2⟩
                  have hR1 : RowPn w2 g1 ⟨#[]⟩ false 0 := Row.below hR1 hb2 hl1
                  have hB2 := HB1.out.trans (hb2.mono HB1.out.size)
                  go_wp2_with (first | (refine wpList_store_pn rfl rfl _ _ rfl g1 (by exact rfl) ⟨#[]⟩ false 0 (by exact rfl) _ _ _ hR1 ?_; intro W9 hR9 hG9))
                  have hb9 := below_row hB2 hG9 (Nat.le_refl _) hg1
                  refine ret_pn3 2 3 4 rfl g1 rfl _ _ _ hR9 _ _ rfl rfl rfl ⟨pd_end HR.out, hb9⟩

                | true =>
                  have HR := Lib.hid (g7 rfl h5 hv)
                  rw [hv] at cv
                  clear g4 g5 g6 g7 kz hv
                  refine c1.mono ?_
                  rintro e w' ⟨rfl, rfl⟩
                  go_wp2_with fail
                  refine c2.mono ?_
                  rintro e w' ⟨rfl, rfl⟩
                  go_wp2_with fail
                  refine c3.mono ?_
                  rintro e w' ⟨rfl, rfl⟩
                  go_wp2_with fail
                  refine (cv _).mono ?_
                  rintro e w2 ⟨rfl, hb2⟩
                  have hR1 : RowPn w2 g1 ⟨#[]⟩ false 0 := Row.below hR1 hb2 hl1
                  have hB2 := HB1.out.trans (hb2.mono HB1.out.size)
                  go_wp2_with (first | (refine wpList_store_pn rfl rfl _ _ rfl g1 (by exact rfl) (dt l) (z == 1) x (by exact rfl) _ _ _ hR1 ?_; intro W9 hR9 hG9))
                  have hb9 := below_row hB2 hG9 (Nat.le_refl _) hg1
                  refine ret_pn3 2 3 4 rfl g1 rfl _ _ _ hR9 _ _ rfl rfl rfl ⟨pd_end HR.out, hb9⟩

            · have HR := Lib.hid (g4 h4)
              have h4' : (r != 0) = true := by simpa using h4
              clear g4 g5 g6 g7 kz cv
              refine c1.mono ?_
              rintro e w' ⟨rfl, rfl⟩
              go_wp2_with fail
              refine c2.mono ?_
              rintro e w' ⟨rfl, rfl⟩
              go_wp2_with fail
              refine c3.mono ?_
              rintro e w' ⟨rfl, rfl⟩
              go_wp2_with (first | (refine wpList_store_pn rfl rfl _ _ rfl g1 (by exact rfl) ⟨#[]⟩ false 0 (by exact rfl) _ _ _ hR1 ?_; intro W9 hR9 hG9))
              have hb9 := below_row HB1.out hG9 (Nat.le_refl _) hg1
              refine ret_pn3 2 3 4 rfl g1 rfl _ _ _ hR9 _ _ rfl rfl rfl ⟨pd_end HR.out, hb9⟩

      · have HR := Lib.hid (P2.out h2)
        generalize dv (l.drop K) = z at *
        generalize dn (l.drop K) = y at *
        generalize de (l.drop K) = r at *
        have h2' : (r != 0) = true := by simpa using h2
        clear fz
        refine c1.mono ?_
        rintro e w' ⟨rfl, rfl⟩
        go_wp2_with fail
        refine c2.mono ?_
        rintro e w' ⟨rfl, rfl⟩
        go_wp2_with (first | (refine wpList_store_pn rfl rfl _ _ rfl g1 (by exact rfl) ⟨#[]⟩ false 0 (by exact rfl) _ _ _ hR1 ?_; intro W9 hR9 hG9))
        have hb9 := below_row HB1.out hG9 (Nat.le_refl _) hg1
        refine ret_pn3 2 3 4 rfl g1 rfl _ _ _ hR9 _ _ rfl rfl rfl ⟨pd_end HR.out, hb9⟩

  · have HR := Lib.hid (pdr_1 h1)
    have h1' : (dte l != 0) = true := by simpa using h1
    refine c1.mono ?_
    rintro e w' ⟨rfl, rfl⟩
    go_wp2_with (first | (refine wpList_store_pn rfl rfl _ _ rfl g1 (by exact rfl) ⟨#[]⟩ false 0 (by exact rfl) _ _ _ hR1 ?_; intro W9 hR9 hG9))
    have hb9 := below_row HB1.out hG9 (Nat.le_refl _) hg1
    refine ret_pn3 2 3 4 rfl g1 rfl _ _ _ hR9 _ _ rfl rfl rfl ⟨pd_end HR.out, hb9⟩
end

section
open Go.RowKit

theorem kV : PnVal 10 := pnValid_any qVn
theorem kE : PnEnc 8 := pnEnc_any kV
theorem kD : PnDec 7 := pnDec_any qVn
theorem kC : PnCmp 13 := pnCmp_any
end

section
open Go.RowKit Go.Shelf

def exP : List UInt8 := [3, 97, 46, 98, 1, 5]
theorem ex22_ok : pinOk ⟨[97, 46, 98], true, 5⟩ = true := by decide +kernel
theorem ex22_enc : pinEnc ⟨ls ⟨#[97, 46, 98]⟩, true, 5⟩ = (exP, 0) := by decide +kernel
theorem ex22_pin : pinDec exP = (⟨[97, 46, 98], true, 5⟩, 6, 0) := by decide +kernel
theorem ex22_c1 : cmpN (ls ⟨#[99, 111, 109]⟩) (ls ⟨#[97, 46, 99, 111, 109]⟩) = -1 := by decide +kernel
theorem ex22_c2 : cmpN (ls ⟨#[120, 46, 97, 46, 99, 111, 109]⟩) (ls ⟨#[98, 46, 99, 111, 109]⟩) = -1 := by decide +kernel

set_option maxRecDepth 20000 in
set_option maxHeartbeats 2000000 in
theorem awake22_any (hV : PnVal 10) (hE : PnEnc 8) (hD : PnDec 7) (hC : PnCmp 13) (w : World) : Calls Tryd.prog 6 #[] w (Yes w) := by
  have cE := hE ⟨#[97, 46, 98]⟩ true 5 w (by decide)
  rw [ex22_enc] at cE
  have cV := fun W => hV ⟨#[97, 46, 98]⟩ true 5 W (by decide)
  rw [show pinOk ⟨ls ⟨#[97, 46, 98]⟩, true, 5⟩ = true from ex22_ok] at cV
  have c1 := fun W => hC ⟨#[99, 111, 109]⟩ ⟨#[97, 46, 99, 111, 109]⟩ W (by decide) (by decide)
  rw [ex22_c1] at c1
  have c2 := fun W => hC ⟨#[120, 46, 97, 46, 99, 111, 109]⟩ ⟨#[98, 46, 99, 111, 109]⟩ W (by decide) (by decide)
  rw [ex22_c2] at c2
  have t0 : ((bs exP).toList == ([3, 97, 46, 98, 1, 5] : List UInt8)) = true := by rw [toList_ls]; rfl
  have t1 : ((bs [97, 46, 98]).toList == ([97, 46, 98] : List UInt8)) = true := by rw [toList_ls]; rfl
  go_enter Tryd.func6, Tryd.ntmps6
  go_wp2_with fail
  refine cE.mono ?_
  rintro e w1 ⟨⟨v, rfl, ho⟩, hb1⟩
  have ho : w1.ownsRow w.heap.size 5 1 v 6 (exP.map bv) := ho
  obtain ⟨A, c, rfl, hh, hc⟩ := Has.of_own ho
  have cD := hD A 6 c _ exP w1 hh hc (own_cap ho _ _ _ rfl) (by omega) (Nat.le_refl _)
  obtain ⟨e1, e2, e3, e4, e5⟩ := pdr_of ex22_pin
  rw [e1, e2, e3, e4, e5] at cD
  clear e1 e2 e3 e4 e5 cE ho
  have HH := Lib.hid hh
  clear hh
  go_wp2_with fail
  refine cD.mono ?_
  rintro e w2 ⟨rfl, hb2⟩
  have HB2 := Lib.hid (hb1.trans (hb2.mono hb1.size))
  go_wp2_with (first
    | (refine wpList_alloc_arr _ rfl 3 rfl _ rfl _ zeroPn ?_; intro W3 g3 hg3 hl3 hR3 hG3; have hR3 : RowPn W3 g3 ⟨#[]⟩ false 0 := hR3)
    | (refine wpList_store_pn rfl rfl _ _ rfl g3 (by exact rfl) (bs [97, 46, 98]) true 5 (by exact rfl) _ _ _ hR3 ?_
       intro W4 hR4 hG4
       have b3 := below_row0 (Below.refl w2.heap.size w2) hG3 (Nat.le_refl _)
       have b4 := below_row b3 hG4 (Nat.le_refl _) hg3
       have hcv := str_has W4 A 6 c _ _ ((HH.out.below hb2).below' b4 hb2.size)
       obtain ⟨x0, x1, x2⟩ := RowPn.cells hR4
       have hb4 := Lib.hid b4
       clear b3 b4 hG3 hG4))
  refine (c1 _).mono ?_
  rintro e w5 ⟨rfl, hb5⟩
  go_wp2_with fail
  refine (c2 _).mono ?_
  rintro e w6 ⟨rfl, hb6⟩
  have hR6 : RowPn w6 g3 (bs [97, 46, 98]) true 5 := Row.below (Row.below hR4 hb5 (Row.lt hR4)) (hb6.mono hb5.size) (Row.lt hR4)
  go_wp2_with (first | (refine wpList_load_pn (by rfl) _ rfl g3 (by exact rfl) _ _ _ hR6 ?_))
  refine (cV _).mono ?_
  rintro e w7 ⟨rfl, hb7⟩
  go_wp2
  go_ret
  have B4 := HB2.out.trans (hb4.out.mono HB2.out.size)
  have B5 := B4.trans (hb5.mono B4.size)
  have B6 := B5.trans (hb6.mono B5.size)
  exact ⟨rfl, B6.trans (hb7.mono B6.size)⟩
end

section
open Go.RowKit

theorem tyStrs : Tryd.prog.underlying 47 = some (.slice 9) := by kernel_rfl
theorem infoStr : (Tryd.prog.info? 9).map (fun i => (i.zero, i.size, i.bytes)) = some (some (.string ByteArray.empty), 1, 16) := by kernel_rfl

def wv (acc : List (List UInt8)) : List Value := acc.map fun l => .string (bs l)
theorem wv_snoc (acc : List (List UInt8)) (l : List UInt8) : wv acc ++ [.string (bs l)] = wv (acc ++ [l]) := by simp [wv]
theorem wv_length (acc : List (List UInt8)) : (wv acc).length = acc.length := by simp [wv]
theorem wv_get (acc : List (List UInt8)) (k : Nat) (h : k < acc.length) : (wv acc)[k]'(by rw [wv_length]; exact h) = .string (bs acc[k]) := by simp [wv]
end

section
open Go.RowKit

/-- A list of strings that the call has made. -/
def ListPost (l : List (List UInt8)) (w : World) (e : Ending) (w' : World) : Prop :=
  ∃ v n, e = .returned v ∧ w'.ownsRow w.heap.size 9 1 v n (wv l) ∧ Below w.heap.size w w'
def SplitAt (c : UInt8) (s : ByteArray) (acc : List (List UInt8)) (cur : List UInt8) (i : Nat) : Prop := acc ++ splitG c ((ls s).drop i) cur = splitL c (ls s)
theorem splitAt_start (c : UInt8) (s : ByteArray) : SplitAt c s [] [] 0 := rfl
theorem drop_ls (s : ByteArray) (i : Nat) (h : i < s.size) : (ls s).drop i = s[i] :: (ls s).drop (i + 1) := by
  rw [List.drop_eq_getElem_cons (by rw [ls_length]; exact h), ls_getE s i h]
  rfl
theorem splitAt_byte {c : UInt8} {s : ByteArray} {acc cur} {i : Nat} (h : SplitAt c s acc cur i) (hi : i < s.size) (hb : s[i] ≠ c) : SplitAt c s acc (cur ++ [s[i]]) (i + 1) := by
  unfold SplitAt at h ⊢
  rw [drop_ls s i hi, splitG, if_neg hb] at h
  exact h
theorem splitAt_dot {c : UInt8} {s : ByteArray} {acc cur} {i : Nat} (h : SplitAt c s acc cur i) (hi : i < s.size) (hb : s[i] = c) : SplitAt c s (acc ++ [cur]) [] (i + 1) := by
  unfold SplitAt at h ⊢
  rw [drop_ls s i hi, splitG, if_pos hb] at h
  rw [List.append_assoc]
  exact h
theorem splitAt_end {c : UInt8} {s : ByteArray} {acc cur} (h : SplitAt c s acc cur s.size) : acc ++ [cur] = splitL c (ls s) := by
  unfold SplitAt at h
  rw [drop_ls_all, splitG] at h
  exact h

set_option maxRecDepth 20000 in
set_option maxHeartbeats 2000000 in
theorem refSplit_any (s : ByteArray) (c : UInt8) (w : World) (hs : s.size ≤ 1000000000) :
    Calls Tryd.prog 25 #[.string s, .int .u8 (c.toNat : Int)] w (ListPost (splitL c (ls s)) w) := by
  obtain ⟨i9, hi9, hz0, hz1, hz2⟩ := info_parts infoStr
  obtain ⟨cv, hcv⟩ : ∃ x : Int, x = (c.toNat : Int) := ⟨_, rfl⟩
  have HC := Lib.hid hcv
  rw [← hcv]
  clear hcv
  go_enter Tryd.func25, Tryd.ntmps25
  go_wp2
  go_loopw [5, 6, 7] (fun v f i wr => ∃ (k m : Nat) (acc : List (List UInt8)), m ≤ k ∧ k ≤ s.size + 1 ∧ acc.length ≤ k ∧ i = .int .i64 k ∧ f = .int .i64 m ∧ Hid (k ≤ s.size → SplitAt c s acc (sub s m k) k) ∧ Hid (s.size < k → acc = splitL c (ls s)) ∧
      wr.ownsRow w.heap.size 9 1 v acc.length (wv acc) ∧ Below w.heap.size w wr) (fun _ _ i _ => s.size + 1 - (intOf i).toNat)
  case atStart => exact ⟨0, 0, [], Nat.le_refl _, by omega, Nat.le_refl _, rfl, rfl, Lib.hid (fun _ => by rw [sub_self]; exact splitAt_start c s), Lib.hid (fun h => by omega), World.ownsRow_nil _ _ _ _, Below.refl _ _⟩
  case round =>
    obtain ⟨k, m, acc, hmk, hk, hal, rfl, rfl, HAT, HEND, hown, hb⟩ := hrel
    by_cases hlt : k < s.size
    · by_cases hsp : s[k] = c
      · have hq : ((s[k].toNat : Int) == cv) = true := by rw [HC.out, hsp]; simp
        have HSP := Lib.hid hsp
        clear hsp
        go_wp2_with (at_builtin; refine wpList_app_one _ rfl _ _ 47 rfl w.heap.size 9 i9 (.string ByteArray.empty) 16 tyStrs hi9 hz0 hz1 hz2 rfl _ (by exact rfl) _ _ _ (by exact rfl) hown (by exact rfl) (by unfold maxLen; omega) (by omega) hb (Nat.le_refl _) ?_; intro v' w' hown' hb' _)
        go_roundw
        case rel =>
          refine ⟨k + 1, k + 1, acc ++ [sub s m k], Nat.le_refl _, by omega, by simp; omega, by go_num, by go_num, Lib.hid (fun _ => ?_), Lib.hid (fun h => by omega), ?_, hb'⟩
          · rw [sub_self]; exact splitAt_dot (HAT.out (by omega)) hlt HSP.out
          · rw [← wv_snoc, ← sub_extract]; simpa using hown'
        case measure => simp [intOf]; omega
      · have hq : ((s[k].toNat : Int) == cv) = false := by
          rw [HC.out, beq_eq_false_iff_ne]
          exact fun e => hsp (UInt8.toNat_inj.1 (by omega))
        have HSP : Hid (s[k] ≠ c) := Lib.hid hsp
        clear hsp
        go_wp2
        go_roundw
        case rel =>
          refine ⟨k + 1, m, acc, by omega, by omega, by omega, by go_num, rfl, Lib.hid (fun _ => ?_), Lib.hid (fun h => by omega), hown, hb⟩
          rw [sub_succ s m k hmk hlt]; exact splitAt_byte (HAT.out (by omega)) hlt HSP.out
        case measure => simp [intOf]; omega
    · by_cases hle : k ≤ s.size
      · obtain rfl : k = s.size := by omega
        go_wp2_with (at_builtin; refine wpList_app_one _ rfl _ _ 47 rfl w.heap.size 9 i9 (.string ByteArray.empty) 16 tyStrs hi9 hz0 hz1 hz2 rfl _ (by exact rfl) _ _ _ (by exact rfl) hown (by exact rfl) (by unfold maxLen; omega) (by omega) hb (Nat.le_refl _) ?_; intro v' w' hown' hb' _)
        go_roundw
        case rel =>
          refine ⟨s.size + 1, s.size + 1, acc ++ [sub s m s.size], Nat.le_refl _, by omega, by simp; omega, by go_num, by go_num, Lib.hid (fun h => by omega), Lib.hid (fun _ => splitAt_end (HAT.out (Nat.le_refl _))), ?_, hb'⟩
          rw [← wv_snoc, ← sub_extract]; simpa using hown'
        case measure => simp [intOf]
      · obtain rfl : k = s.size + 1 := by omega
        have HE : Hid (acc = splitL c (ls s)) := Lib.hid (HEND.out (by omega))
        go_wp2
        go_ret
        exact ⟨_, _, rfl, by rw [← HE.out]; exact hown, hb⟩
end

section
open Go.RowKit

/-- A list of strings, as a slice. -/
def StrsPost (l : List (List UInt8)) (w : World) (e : Ending) (w' : World) : Prop :=
  ∃ A c, e = .returned (.slice A l.length c) ∧ l.length ≤ c ∧ Has w' w'.heap.size A l.length (wv l) ∧ Below w.heap.size w w'

theorem str_cell {w : World} {B n : Nat} {A : Option Addr} {l : List (List UInt8)} (h : Has w B A n (wv l)) (k : Nat) (hk : k < n) : ∃ b off, A = some ⟨b, off, none⟩ ∧ w.cell? ⟨b, off + k, none⟩ = some (.string (bs (l.getD k []))) := by
  have hl : (wv l).length = n := h.1
  rw [wv_length] at hl
  obtain ⟨b, off, e, _, hc⟩ := h.at_ hk
  refine ⟨b, off, e, ?_⟩
  rw [hc, wv_get l k (by omega), List.getD_eq_getElem?_getD, List.getElem?_eq_getElem (by omega), Option.getD_some]

theorem getD_last {α : Type _} (l : List α) (d : α) (_h : 0 < l.length) : l.getD (l.length - 1) d = l.getLastD d := by
  rw [List.getLastD_eq_getLast?, List.getLast?_eq_getElem?, List.getD_eq_getElem?_getD]
theorem last_nil {l : List (List UInt8)} (h : 0 < l.length) : (l.getLast? = some [] ↔ l.getD (l.length - 1) [1] = []) := by
  rw [List.getLast?_eq_getElem?, List.getD_eq_getElem?_getD, List.getElem?_eq_getElem (by omega)]
  simp
theorem bs_nil_iff (l : List UInt8) : ((bs l).toList == ([] : List UInt8)) = decide (l = []) := by
  rw [toList_ls, ls_bs]
  cases l <;> rfl
end

section
open Go.RowKit Go.Shelf

theorem less_cmp : ∀ x y : List UInt8, Op.bytesLess x y = decide (cmpB x y = -1)
  | [], [] => rfl
  | [], _ :: _ => rfl
  | _ :: _, [] => rfl
  | a :: x, b :: y => by
    have e : cmpB (a :: x) (b :: y) = if bytC a b = 0 then cmpB x y else bytC a b := rfl
    have ih := less_cmp x y
    unfold Op.bytesLess
    rw [e, ih]
    unfold bytC
    by_cases h1 : a < b
    · rw [if_pos h1, if_neg (by decide), decide_eq_true h1]
      rfl
    · rw [if_neg h1, decide_eq_false h1]
      by_cases h2 : b < a
      · rw [if_pos h2, if_neg (by decide), Bool.false_or]
        have hne : (a == b) = false := beq_false_of_ne fun h => by rw [h] at h2; exact absurd h2 (UInt8.lt_irrefl b)
        rw [hne]
        rfl
      · rw [if_neg h2, if_pos rfl, Bool.false_or]
        have he : a = b := UInt8.toNat_inj.1 (by rw [UInt8.lt_iff_toNat_lt] at h1 h2; omega)
        subst he
        rw [beq_self_eq_true, Bool.true_and]

set_option maxRecDepth 20000 in
set_option maxHeartbeats 4000000 in
theorem refCmp_any : PnCmp 14 := by
  intro a b w ha hb
  have c1 := fun W => refSplit_any a 46 W ha
  have c2 := fun W => refSplit_any b 46 W hb
  have hC0 : cmpN (ls a) (ls b) = cmpR ((splitL 46 (ls a)).reverse.drop 0) ((splitL 46 (ls b)).reverse.drop 0) := rfl
  have l1 := splitL_length 46 (ls a)
  have l2 := splitL_length 46 (ls b)
  rw [ls_length] at l1 l2
  generalize splitL 46 (ls a) = X at *
  generalize splitL 46 (ls b) = Y at *
  generalize cmpN (ls a) (ls b) = V at *
  have HC0 := Lib.hid hC0
  clear hC0
  go_enter Tryd.func14, Tryd.ntmps14
  go_wp2_with fail
  refine (c1 _).mono ?_
  rintro e w1 ⟨v, m, rfl, hown, hb1⟩
  obtain ⟨A1, k1, rfl, hh1, hmc1⟩ := Has.of_own hown
  have hm1 : m = X.length := by have := hh1.1; rw [wv_length] at this; omega
  rw [← hm1] at l1
  have HM1 := Lib.hid hm1
  clear hm1
  clear hown
  go_wp2_with fail
  refine (c2 _).mono ?_
  rintro e w2 ⟨v, m2, rfl, hown, hb2⟩
  obtain ⟨A2, k2, rfl, hh2, hmc2⟩ := Has.of_own hown
  have hm2 : m2 = Y.length := by have := hh2.1; rw [wv_length] at this; omega
  rw [← hm2] at l2
  have HM2 := Lib.hid hm2
  clear hm2
  have HB := Lib.hid (hb1.trans (hb2.mono hb1.size))
  have HH1 := Lib.hid (hh1.below hb2)
  have HH2 := Lib.hid hh2
  have HS := Lib.hid hb2.size
  clear hown hh1 hh2 hb1 hb2 c1 c2
  go_wp2
  go_loopw [7] (fun i wr => ∃ k : Nat, k ≤ m ∧ k ≤ m2 ∧ i = .int .i64 ((k + 1 : Nat) : Int) ∧ Hid (V = cmpR (X.reverse.drop k) (Y.reverse.drop k)) ∧ Hid (Below w2.heap.size w2 wr)) (fun i _ => m + 1 - (intOf i).toNat)
  case atStart => exact ⟨0, Nat.zero_le _, Nat.zero_le _, rfl, HC0, Lib.hid (Below.refl _ _)⟩
  case round =>
    obtain ⟨k, hk, hk2, hi, HV, HW⟩ := hrel
    obtain ⟨j, hj⟩ : ∃ j, j = k + 1 := ⟨_, rfl⟩
    rw [← hj] at hi
    subst hi
    by_cases hin : j ≤ m ∧ j ≤ m2
    · obtain ⟨p, hp⟩ : ∃ p, p = m - j := ⟨_, rfl⟩
      obtain ⟨q, hq⟩ : ∃ q, q = m2 - j := ⟨_, rfl⟩
      have e1 : (m : Int) - (j : Int) = (p : Int) := by omega
      have e2 : (m2 : Int) - (j : Int) = (q : Int) := by omega
      have p1 : p < m := by omega
      have q1 : q < m2 := by omega
      have n1 : (j : Int) ≤ (m : Int) := by omega
      have n2 : (j : Int) ≤ (m2 : Int) := by omega
      have hd1 := rev_drop X k (by have := HM1.out; omega)
      have hd2 := rev_drop Y k (by have := HM2.out; omega)
      rw [← HM1.out, ← hj, ← hp] at hd1
      rw [← HM2.out, ← hj, ← hq] at hd2
      obtain ⟨b1, o1, rfl, f1⟩ := str_cell (HH1.out.below' HW.out HS.out) p p1
      obtain ⟨b2, o2, rfl, f2⟩ := str_cell (HH2.out.below HW.out) q q1
      generalize X.getD p [] = x at *
      generalize Y.getD q [] = y at *
      have HD1 := Lib.hid hd1
      have HD2 := Lib.hid hd2
      have HJ := Lib.hid hj
      have HK1 : Hid (k + 1 ≤ m) := Lib.hid (by omega)
      have HK2 : Hid (k + 1 ≤ m2) := Lib.hid (by omega)
      clear hd1 hd2 hj hp hq hin
      have HBW := Lib.hid (HB.out.trans (HW.out.mono HB.out.size))
      have HV2 := HV.out
      rw [HD1.out, HD2.out, cmpR_cons] at HV2
      have tl : Op.bytesLess (bs x).toList (bs y).toList = decide (cmpB x y = -1) := by rw [toList_ls, toList_ls, ls_bs, ls_bs, less_cmp]
      have te : ((bs x).toList == (bs y).toList) = decide (cmpB x y = 0) := by
        rw [toList_ls, toList_ls, ls_bs, ls_bs, Bool.eq_iff_iff, beq_iff_eq, decide_eq_true_iff]
        exact ⟨fun h => by rw [h]; exact tot_cmpB.refl y, tot_cmpB.eq x y⟩
      have hv := tot_cmpB.vals x y
      generalize cmpB x y = o at *
      rcases hv with rfl | rfl | rfl
      · have HV3 : Hid (V = -1) := HV2
        have tl : Op.bytesLess (bs x).toList (bs y).toList = true := tl
        clear te HV2
        go_wp2_with fail
        go_quiet (fail)
        go_wp2
        go_ret
        exact ⟨ret_int HV3.out.symm, by first | exact below_drewN HBW.out _ | exact HBW.out.trans (below_drewN _ _)⟩
      · have HV3 : Hid (V = cmpR (X.reverse.drop (k + 1)) (Y.reverse.drop (k + 1))) := Lib.hid (by rw [if_pos rfl] at HV2; rw [HV2, HJ.out])
        have tl : Op.bytesLess (bs x).toList (bs y).toList = false := tl
        have te : ((bs x).toList == (bs y).toList) = true := te
        clear HV2
        go_wp2_with fail
        go_quiet (fail)
        go_wp2
        go_roundw
        case rel => exact ⟨k + 1, HK1.out, HK2.out, by rw [HJ.out]; go_num, HV3, Lib.hid (by first | exact below_drewN HW.out _ | exact HW.out.trans (below_drewN _ _))⟩
        case measure => simp [intOf]; omega
      · have HV3 : Hid (V = 1) := HV2
        have tl : Op.bytesLess (bs x).toList (bs y).toList = false := tl
        have te : ((bs x).toList == (bs y).toList) = false := te
        clear HV2
        go_wp2_with fail
        go_quiet (fail)
        go_wp2
        go_ret
        exact ⟨ret_int HV3.out.symm, by first | exact below_drewN HBW.out _ | exact HBW.out.trans (below_drewN _ _)⟩
    · have HVE : Hid (V = if m < m2 then -1 else if m2 < m then 1 else 0) := by
        show _ = _
        rw [HV.out, cmpR_end X Y k (by have := HM1.out; have := HM2.out; omega) (by have := HM1.out; omega) (by have := HM2.out; omega), ← HM1.out, ← HM2.out]
      have HBW := Lib.hid (HB.out.trans (HW.out.mono HB.out.size))
      by_cases h1 : j ≤ m
      · have h2 : ¬ (j : Int) ≤ (m2 : Int) := by omega
        have h3 : (j : Int) ≤ (m : Int) := by omega
        have h4 : ¬ (m : Int) < (m2 : Int) := by omega
        have h5 : (m2 : Int) < (m : Int) := by omega
        have HV3 : Hid (V = 1) := Lib.hid (by rw [HVE.out, if_neg (by omega), if_pos (by omega)])
        clear hin h1
        go_wp2
        go_ret
        exact ⟨ret_int HV3.out.symm, HBW.out⟩
      · have h3 : ¬ (j : Int) ≤ (m : Int) := by omega
        have hkm : k = m := by omega
        by_cases h6 : m < m2
        · have h4 : (m : Int) < (m2 : Int) := by omega
          have HV3 : Hid (V = -1) := Lib.hid (by rw [HVE.out, if_pos h6])
          clear hin h1 h6 hkm
          go_wp2
          go_ret
          exact ⟨ret_int HV3.out.symm, HBW.out⟩
        · have h4 : ¬ (m : Int) < (m2 : Int) := by omega
          have h5 : ¬ (m2 : Int) < (m : Int) := by omega
          have HV3 : Hid (V = 0) := Lib.hid (by rw [HVE.out, if_neg h6, if_neg (by omega)])
          clear hin h1 h6 hkm
          go_wp2
          go_ret
          exact ⟨ret_int HV3.out.symm, HBW.out⟩
end

section
open Go.RowKit

def shortB (n : Int) (ss : List ByteArray) : Bool := ss.all fun s => decide ((s.size : Int) ≤ n)
theorem shortB_no (n : Int) (ss : List ByteArray) (k : Nat) (h : k < ss.length) (hn : n < (ss[k].size : Int)) : shortB n ss = false := by
  unfold shortB
  rw [List.all_eq_false]
  exact ⟨ss[k], List.getElem_mem h, by simp; omega⟩
theorem shortB_succ (n : Int) (ss : List ByteArray) (k : Nat) (h : k < ss.length) (ht : shortB n (ss.take k) = true) (hn : (ss[k].size : Int) ≤ n) : shortB n (ss.take (k + 1)) = true := by
  unfold shortB at ht ⊢
  rw [List.take_succ_eq_append_getElem h, List.all_append, ht]
  simp [hn]

set_option maxHeartbeats 1000000 in
theorem short_any (n : Int) (A : Option Addr) (len cap : Nat) (ss : List ByteArray) (B : Nat) (w : World) (hA : Has w B A len (ss.map Value.string)) (hlen : len ≤ 1000000000) :
    Calls Tryd.prog 12 #[.int .i64 n, .slice A len cap] w fun e w' => e = .returned (.bool (shortB n ss)) ∧ w = w' := by
  have hl : ss.length = len := by simpa using hA.1
  go_enter Tryd.func12, Tryd.ntmps12
  have HL := Lib.hid hl
  have HA := Lib.hid hA
  clear hl hA
  go_wp2
  go_loop [5] (fun i => ∃ k : Nat, k ≤ len ∧ i = .int .i64 k ∧ shortB n (ss.take k) = true) (fun i => len - (intOf i).toNat)
  case atStart => exact ⟨0, Nat.zero_le _, rfl, rfl⟩
  case round =>
    obtain ⟨k, hk, rfl, hsh⟩ := hrel
    have HS := Lib.hid hsh
    clear hsh
    by_cases hlt : k < len
    · have hks : k < ss.length := by rw [HL.out]; exact hlt
      obtain ⟨b, off, rfl, hb, hc⟩ := HA.out.at_ hlt
      rw [List.getElem_map] at hc
      by_cases hn : n < (ss[k].size : Int)
      · have HF := Lib.hid (shortB_no n ss k hks hn)
        go_wp2
        go_ret
        exact ⟨ret_bool HF.out.symm, rfl⟩
      · have HT := Lib.hid (shortB_succ n ss k hks HS.out (by omega))
        go_wp2
        go_round
        case rel => exact ⟨k + 1, by omega, by go_num, HT.out⟩
        case measure => simp [intOf]; omega
    · have HF : Hid (shortB n ss = true) := by
        have := HS.out
        rwa [List.take_of_length_le (by rw [HL.out]; omega)] at this
      go_wp2
      go_ret
      exact ⟨ret_bool HF.out.symm, rfl⟩
end

end Go.Proofs.YthoolifdmemceaaDoor
