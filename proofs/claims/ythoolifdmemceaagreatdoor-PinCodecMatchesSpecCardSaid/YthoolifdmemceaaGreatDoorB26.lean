/-
Package pin: Decode.
What package pin's functions do, as the walks of the statements ask it.
The fixed examples of the statements of layer 22 (awake) hold.
The contract of the reference's DecodeUint (layer 3).
Contracts of wire.Text and of the reference's DecodeText (layer 3).
-/
import Derived.Test.YthoolifdmemceaaGreatDoorB24
import Derived.Test.YthoolifdmemceaaGreatDoorB25
import Derived.Test.YthoolifdmemceaaGreatDoorB22
import Derived.Test.YthoolifdmemceaaGreatDoorB10
namespace Go.Proofs.YthoolifdmemceaaGreatDoor
section
open Go.RowKit Go.Shelf

/-- What decoding gives, as the walk's values. -/
def pdH (l : List UInt8) : ByteArray := bs (pinDec l).1.host
def pdS (l : List UInt8) : Bool := (pinDec l).1.sub
def pdX (l : List UInt8) : Int := (pinDec l).1.exp
def pdN (l : List UInt8) : Int := ((pinDec l).2.1 : Int)
def pdE (l : List UInt8) : Int := ((pinDec l).2.2 : Int)
def PdR (l : List UInt8) (h : ByteArray) (s : Bool) (x n e : Int) : Prop := pdH l = h ∧ pdS l = s ∧ pdX l = x ∧ pdN l = n ∧ pdE l = e
theorem pdr_of {l : List UInt8} {h : List UInt8} {s : Bool} {x : Int} {n e : Nat} (hd : pinDec l = (⟨h, s, x⟩, n, e)) : PdR l (bs h) s x n e := by
  unfold PdR pdH pdS pdX pdN pdE
  rw [hd]
  exact ⟨rfl, rfl, rfl, rfl, rfl⟩
theorem pdr_1 {l : List UInt8} (h : dte l ≠ 0) : PdR l (bs []) false 0 0 (dte l) := by
  unfold dte at h ⊢
  exact pdr_of (n := 0) (h := []) (by unfold pinDec; rw [if_pos (by omega)]; rfl)
section
variable {l : List UInt8} {K M : Nat} (h1 : dte l = 0) (hK : dtn l = (K : Int))
include h1 hK
theorem pdr_2 (h2 : de (l.drop K) ≠ 0) : PdR l (bs []) false 0 0 (de (l.drop K)) := by
  unfold dte at h1
  unfold dtn at hK
  obtain rfl : (decT l).2.1 = K := by omega
  unfold de at h2 ⊢
  exact pdr_of (n := 0) (h := []) (by unfold pinDec; rw [if_neg (by omega), if_pos (by omega)]; rfl)
theorem pdr_3 (h2 : de (l.drop K) = 0) (h3 : 1 < dv (l.drop K)) : PdR l (bs []) false 0 0 6 := by
  unfold dte at h1
  unfold dtn at hK
  obtain rfl : (decT l).2.1 = K := by omega
  unfold de at h2
  unfold dv at h3
  exact pdr_of (n := 0) (h := []) (e := 6) (by unfold pinDec; rw [if_neg (by omega), if_neg (by omega), if_pos (by omega)]; rfl)
variable (h2 : de (l.drop K) = 0) (h3 : ¬ 1 < dv (l.drop K)) (hM : dn (l.drop K) = (M : Int))
include h2 h3 hM
theorem pdr_4 (h4 : de (l.drop (K + M)) ≠ 0) : PdR l (bs []) false 0 0 (de (l.drop (K + M))) := by
  unfold dte at h1
  unfold dtn at hK
  obtain rfl : (decT l).2.1 = K := by omega
  unfold de at h2
  unfold dv at h3
  unfold dn at hM
  obtain rfl : (dec (l.drop (decT l).2.1)).2.1 = M := by omega
  unfold de at h4 ⊢
  exact pdr_of (n := 0) (h := []) (by unfold pinDec; rw [if_neg (by omega), if_neg (by omega), if_neg (by omega), if_pos (by omega)]; rfl)
variable (h4 : de (l.drop (K + M)) = 0)
include h4
theorem pdr_5 (h5 : 1099511627776 < dv (l.drop (K + M))) : PdR l (bs []) false 0 0 2 := by
  unfold dte at h1
  unfold dtn at hK
  obtain rfl : (decT l).2.1 = K := by omega
  unfold de at h2
  unfold dv at h3
  unfold dn at hM
  obtain rfl : (dec (l.drop (decT l).2.1)).2.1 = M := by omega
  unfold de at h4
  unfold dv at h5
  exact pdr_of (n := 0) (h := []) (e := 2) (by unfold pinDec; rw [if_neg (by omega), if_neg (by omega), if_neg (by omega), if_neg (by omega), if_pos (by omega)]; rfl)
variable (h5 : ¬ 1099511627776 < dv (l.drop (K + M)))
include h5
theorem pdr_6 (h6 : vnL (ls (dt l)) = false) : PdR l (bs []) false 0 0 14 := by
  unfold dte at h1
  unfold dtn at hK
  obtain rfl : (decT l).2.1 = K := by omega
  unfold de at h2
  unfold dv at h3
  unfold dn at hM
  obtain rfl : (dec (l.drop (decT l).2.1)).2.1 = M := by omega
  unfold de at h4
  unfold dv at h5
  unfold dt at h6
  rw [ls_bs] at h6
  exact pdr_of (n := 0) (h := []) (e := 14) (by unfold pinDec; rw [if_neg (by omega), if_neg (by omega), if_neg (by omega), if_neg (by omega), if_neg (by omega), if_pos h6]; rfl)
theorem pdr_7 (h6 : vnL (ls (dt l)) = true) : PdR l (dt l) (dv (l.drop K) == 1) (dv (l.drop (K + M))) ((K : Int) + M + dn (l.drop (K + M))) 0 := by
  unfold dte at h1
  unfold dtn at hK
  obtain rfl : (decT l).2.1 = K := by omega
  unfold de at h2
  unfold dv at h3
  unfold dn at hM
  obtain rfl : (dec (l.drop (decT l).2.1)).2.1 = M := by omega
  unfold de at h4
  unfold dv at h5
  unfold dt at h6
  rw [ls_bs] at h6
  have h := pdr_of (l := l) (h := (decT l).1) (s := decide ((dec (l.drop (decT l).2.1)).1 = 1)) (x := ((dec (l.drop ((decT l).2.1 + (dec (l.drop (decT l).2.1)).2.1))).1 : Int)) (n := (decT l).2.1 + (dec (l.drop (decT l).2.1)).2.1 + (dec (l.drop ((decT l).2.1 + (dec (l.drop (decT l).2.1)).2.1))).2.1) (e := 0)
    (by unfold pinDec; rw [if_neg (by omega), if_neg (by omega), if_neg (by omega), if_neg (by omega), if_neg (by omega), if_neg (by rw [h6]; decide)])
  have es : (dv (l.drop (decT l).2.1) == 1) = decide ((dec (l.drop (decT l).2.1)).1 = 1) := by
    unfold dv
    rw [Bool.eq_iff_iff, beq_iff_eq, decide_eq_true_iff]
    omega
  rw [es]
  obtain ⟨e1, e2, e3, e4, e5⟩ := h
  refine ⟨e1, e2, by unfold dv; exact e3, ?_, e5⟩
  rw [e4]
  unfold dn
  push_cast
  rfl
end
theorem de_nil : de [] = 5 := by unfold de; rfl

def PnDec (F : FuncId) : Prop := ∀ (A : Option Addr) (len cap B : Nat) (l : List UInt8) (w : World), Has w B A len (l.map bv) → len ≤ cap → cap ≤ maxLen → len ≤ 1000000000 → B ≤ w.heap.size →
  Calls Tryz.prog F #[.slice A len cap] w fun e w' => e = .returned (.tuple #[.agg #[.string (pdH l), .bool (pdS l), .int .i64 (pdX l)], .int .i64 (pdN l), .int .i64 (pdE l)]) ∧ Below w.heap.size w w'

theorem pd_end {l : List UInt8} {h : ByteArray} {s : Bool} {x n e : Int} (hr : PdR l h s x n e) : Ending.returned (.tuple #[.agg #[.string h, .bool s, .int .i64 x], .int .i64 n, .int .i64 e]) = .returned (.tuple #[.agg #[.string (pdH l), .bool (pdS l), .int .i64 (pdX l)], .int .i64 (pdN l), .int .i64 (pdE l)]) := by
  obtain ⟨rfl, rfl, rfl, rfl, rfl⟩ := hr
  rfl
theorem has_from {w : World} {B n b off : Nat} {l : List UInt8} (h : Has w B (some ⟨b, off, none⟩) n (l.map bv)) (s : Nat) (hs : s ≤ n) : Has w B (some ⟨b, off + s, none⟩) (n - s) ((l.drop s).map bv) := by
  have hl : l.length = n := by simpa using h.1
  have hp := h.part s (n - s) (by omega)
  rw [← List.map_drop, List.take_of_length_le (by rw [List.length_map, List.length_drop]; omega)] at hp
  exact hp

set_option maxRecDepth 20000 in
set_option maxHeartbeats 4000000 in
theorem pnDec_any (hV : HoVn 19) : PnDec 7 := by
  intro A len cap B l w hA hlc hcap hlen hB
  have HL : Hid (l.length = len) := by show _ = _; simpa using hA.1
  have ht0 : 0 ≤ dte l := by unfold dte; omega
  go_enter Tryz.func7, Tryz.ntmps7
  go_wp2_with (first | (refine wpList_alloc_arr _ rfl 2 rfl _ rfl _ zeroPn ?_; intro W1 g1 hg1 hl1 hR1 hG1; have hR1 : RowPn W1 g1 ⟨#[]⟩ false 0 := hR1))
  have hb1 := below_row0 (Below.refl w.heap.size w) hG1 (Nat.le_refl _)
  have HB1 := Lib.hid hb1
  have HA := Lib.hid (hA.below' hb1 hB)
  have hB1 : B ≤ W1.heap.size := Nat.le_trans hB hb1.size
  have c1 := text_any A len cap B l W1 HA.out hlc hcap hlen
  clear hA hG1 hb1
  by_cases h1 : dte l = 0
  · obtain ⟨q1, q2, q3, q4⟩ := t_zero h1
    obtain ⟨K, hK⟩ : ∃ K : Nat, dtn l = (K : Int) := ⟨(dtn l).toNat, by omega⟩
    rw [HL.out] at q2
    rw [hK] at q1 q2
    clear q3
    rw [h1, hK] at c1
    have hKl : K ≤ len := by omega
    have hKc : K ≤ cap := by omega
    have cv := fun W => hV (dt l) W (by omega)
    have H1 := Lib.hid h1
    have HK := Lib.hid hK
    clear h1 hK ht0
    by_cases hcs : cap = K
    · have hd : l.drop K = [] := List.drop_of_length_le (by rw [HL.out]; omega)
      have hR := pdr_2 H1.out HK.out (by rw [hd, de_nil]; decide)
      rw [hd, de_nil] at hR
      have HR := Lib.hid hR
      have c2 := fun (ad : Addr) (W : World) => uint_any (some ad) 0 0 W.heap.size [] W (Has.nil _ _ _) (Nat.le_refl _) (by omega)
      rw [de_nil] at c2
      obtain rfl : len = K := by omega
      subst hcs
      clear hd hR cv
      obtain ⟨b, off, rfl⟩ : ∃ b off, A = some ⟨b, off, none⟩ := by
        obtain ⟨b, off, e, _⟩ := HA.out.at_ (show 0 < cap by omega)
        exact ⟨b, off, e⟩
      refine c1.mono ?_
      rintro e w' ⟨rfl, rfl⟩
      go_wp2_with fail
      refine (c2 _ _).mono ?_
      rintro e w' ⟨rfl, rfl⟩
      go_wp2_with (first | (refine wpList_store_pn rfl rfl _ _ rfl g1 (by exact rfl) ⟨#[]⟩ false 0 (by exact rfl) _ _ _ hR1 ?_; intro W9 hR9 hG9))
      have hb9 := below_row HB1.out hG9 (Nat.le_refl _) hg1
      refine ret_pn3 2 3 4 rfl g1 rfl _ _ _ hR9 _ _ rfl rfl rfl ⟨pd_end HR.out, hb9⟩

    · obtain ⟨b, off, rfl⟩ : ∃ b off, A = some ⟨b, off, none⟩ := by
        obtain ⟨b, off, e, _⟩ := HA.out.at_ (show 0 < len by omega)
        exact ⟨b, off, e⟩
      have hp := has_from HA.out K hKl
      have c2 := uint_any _ (len - K) (cap - K) B (l.drop K) W1 hp (by omega) (by omega)
      have hcs' : ¬ cap - K = 0 := by omega
      have hd1 : (l.drop K).length = len - K := by rw [List.length_drop, HL.out]
      have P2 := Lib.hid (pdr_2 H1.out HK.out)
      have P3 := Lib.hid (pdr_3 H1.out HK.out)
      have f0 := de_ge (l.drop K)
      have f1 := dv_ge (l.drop K)
      have f2 := dv_lt (l.drop K)
      have f3 := dn_ge (l.drop K)
      have fz := fun h => @d_zero (l.drop K) h
      rw [hd1] at fz
      clear hp hd1
      by_cases h2 : de (l.drop K) = 0
      · obtain ⟨_, q5, q6, q7, _⟩ := fz h2
        obtain ⟨M, hM⟩ : ∃ M : Nat, dn (l.drop K) = (M : Int) := ⟨(dn (l.drop K)).toNat, by omega⟩
        rw [hM] at q5 q6 q7
        rw [h2, hM] at c2
        by_cases h3 : 1 < dv (l.drop K)
        · have HR := Lib.hid (P3.out h2 h3)
          generalize dv (l.drop K) = z at *
          clear hM h2 fz f0 f3 q5 q6 q7
          refine c1.mono ?_
          rintro e w' ⟨rfl, rfl⟩
          go_wp2_with fail
          refine c2.mono ?_
          rintro e w' ⟨rfl, rfl⟩
          go_wp2_with (first | (refine wpList_store_pn rfl rfl _ _ rfl g1 (by exact rfl) ⟨#[]⟩ false 0 (by exact rfl) _ _ _ hR1 ?_; intro W9 hR9 hG9))
          have hb9 := below_row HB1.out hG9 (Nat.le_refl _) hg1
          refine ret_pn3 2 3 4 rfl g1 rfl _ _ _ hR9 _ _ rfl rfl rfl ⟨pd_end HR.out, hb9⟩

        · obtain ⟨E, hE⟩ : ∃ E, E = K + M := ⟨_, rfl⟩
          have hsum : (K : Int) + (M : Int) = (E : Int) := by omega
          have hEl : E ≤ len := by omega
          have hEc : E ≤ cap := by omega
          have g4 := fun h => pdr_4 H1.out HK.out h2 h3 hM h
          have g5 := fun h4 h5 => pdr_5 H1.out HK.out h2 h3 hM h4 h5
          have g6 := fun h4 h5 h6 => pdr_6 H1.out HK.out h2 h3 hM h4 h5 h6
          have g7 := fun h4 h5 h6 => pdr_7 H1.out HK.out h2 h3 hM h4 h5 h6
          rw [← hE] at g4 g5 g6 g7
          rw [hsum] at g7
          clear hE
          generalize dv (l.drop K) = z at *
          clear hM h2 fz f0 f3 P2 P3
          by_cases hce : cap = E
          · have hd : l.drop E = [] := List.drop_of_length_le (by rw [HL.out]; omega)
            have hR := g4 (by rw [hd, de_nil]; decide)
            rw [hd, de_nil] at hR
            have HR := Lib.hid hR
            have c3 := fun (ad : Addr) (W : World) => uint_any (some ad) 0 0 W.heap.size [] W (Has.nil _ _ _) (Nat.le_refl _) (by omega)
            rw [de_nil] at c3
            obtain rfl : len = E := by omega
            subst hce
            clear hd hR cv g4 g5 g6 g7
            refine c1.mono ?_
            rintro e w' ⟨rfl, rfl⟩
            go_wp2_with fail
            refine c2.mono ?_
            rintro e w' ⟨rfl, rfl⟩
            go_wp2_with fail
            refine (c3 _ _).mono ?_
            rintro e w' ⟨rfl, rfl⟩
            go_wp2_with (first | (refine wpList_store_pn rfl rfl _ _ rfl g1 (by exact rfl) ⟨#[]⟩ false 0 (by exact rfl) _ _ _ hR1 ?_; intro W9 hR9 hG9))
            have hb9 := below_row HB1.out hG9 (Nat.le_refl _) hg1
            refine ret_pn3 2 3 4 rfl g1 rfl _ _ _ hR9 _ _ rfl rfl rfl ⟨pd_end HR.out, hb9⟩

          · have hp := has_from HA.out E hEl
            have c3 := uint_any _ (len - E) (cap - E) B (l.drop E) W1 hp (by omega) (by omega)
            have hce' : ¬ cap - E = 0 := by omega
            have k0 := de_ge (l.drop E)
            have k1 := dv_ge (l.drop E)
            have k2 := dv_lt (l.drop E)
            have k3 := dn_ge (l.drop E)
            have kz := fun h => (@d_zero (l.drop E) h).2.2.2.1
            clear hp
            generalize dv (l.drop E) = x at *
            generalize dn (l.drop E) = y at *
            generalize de (l.drop E) = r at *
            by_cases h4 : r = 0
            · have hy := kz h4
              subst h4
              by_cases h5 : 1099511627776 < x
              · have HR := Lib.hid (g5 rfl h5)
                clear g4 g5 g6 g7 cv kz
                refine c1.mono ?_
                rintro e w' ⟨rfl, rfl⟩
                go_wp2_with fail
                refine c2.mono ?_
                rintro e w' ⟨rfl, rfl⟩
                go_wp2_with fail
                refine c3.mono ?_
                rintro e w' ⟨rfl, rfl⟩
                go_wp2_with (first | (refine wpList_store_pn rfl rfl _ _ rfl g1 (by exact rfl) ⟨#[]⟩ false 0 (by exact rfl) _ _ _ hR1 ?_; intro W9 hR9 hG9))
                have hb9 := below_row HB1.out hG9 (Nat.le_refl _) hg1
                refine ret_pn3 2 3 4 rfl g1 rfl _ _ _ hR9 _ _ rfl rfl rfl ⟨pd_end HR.out, hb9⟩

              · have hx : x ≤ 1099511627776 := by omega
                cases hv : vnL (ls (dt l)) with
                | false =>
                  have HR := Lib.hid (g6 rfl h5 hv)
                  rw [hv] at cv
                  clear g4 g5 g6 g7 kz hv
                  refine c1.mono ?_
                  rintro e w' ⟨rfl, rfl⟩
                  go_wp2_with fail
                  refine c2.mono ?_
                  rintro e w' ⟨rfl, rfl⟩
                  go_wp2_with fail
                  refine c3.mono ?_
                  rintro e w' ⟨rfl, rfl⟩
                  go_wp2_with fail
                  refine (cv _).mono ?_
                  rintro e w2 ⟨rfl, hb2⟩
                  have hR1 : RowPn w2 g1 ⟨#[]⟩ false 0 := Row.below hR1 hb2 hl1
                  have hB2 := HB1.out.trans (hb2.mono HB1.out.size)
                  go_wp2_with (first | (refine wpList_store_pn rfl rfl _ _ rfl g1 (by exact rfl) ⟨#[]⟩ false 0 (by exact rfl) _ _ _ hR1 ?_; intro W9 hR9 hG9))
                  have hb9 := below_row hB2 hG9 (Nat.le_refl _) hg1
                  refine ret_pn3 2 3 4 rfl g1 rfl _ _ _ hR9 _ _ rfl rfl rfl ⟨pd_end HR.out, hb9⟩

                | true =>
                  have HR := Lib.hid (g7 rfl h5 hv)
                  rw [hv] at cv
                  clear g4 g5 g6 g7 kz hv
                  refine c1.mono ?_
                  rintro e w' ⟨rfl, rfl⟩
                  go_wp2_with fail
                  refine c2.mono ?_
                  rintro e w' ⟨rfl, rfl⟩
                  go_wp2_with fail
                  refine c3.mono ?_
                  rintro e w' ⟨rfl, rfl⟩
                  go_wp2_with fail
                  refine (cv _).mono ?_
                  rintro e w2 ⟨rfl, hb2⟩
                  have hR1 : RowPn w2 g1 ⟨#[]⟩ false 0 := Row.below hR1 hb2 hl1
                  have hB2 := HB1.out.trans (hb2.mono HB1.out.size)
                  go_wp2_with (first | (refine wpList_store_pn rfl rfl _ _ rfl g1 (by exact rfl) (dt l) (z == 1) x (by exact rfl) _ _ _ hR1 ?_; intro W9 hR9 hG9))
                  have hb9 := below_row hB2 hG9 (Nat.le_refl _) hg1
                  refine ret_pn3 2 3 4 rfl g1 rfl _ _ _ hR9 _ _ rfl rfl rfl ⟨pd_end HR.out, hb9⟩

            · have HR := Lib.hid (g4 h4)
              have h4' : (r != 0) = true := by simpa using h4
              clear g4 g5 g6 g7 kz cv
              refine c1.mono ?_
              rintro e w' ⟨rfl, rfl⟩
              go_wp2_with fail
              refine c2.mono ?_
              rintro e w' ⟨rfl, rfl⟩
              go_wp2_with fail
              refine c3.mono ?_
              rintro e w' ⟨rfl, rfl⟩
              go_wp2_with (first | (refine wpList_store_pn rfl rfl _ _ rfl g1 (by exact rfl) ⟨#[]⟩ false 0 (by exact rfl) _ _ _ hR1 ?_; intro W9 hR9 hG9))
              have hb9 := below_row HB1.out hG9 (Nat.le_refl _) hg1
              refine ret_pn3 2 3 4 rfl g1 rfl _ _ _ hR9 _ _ rfl rfl rfl ⟨pd_end HR.out, hb9⟩

      · have HR := Lib.hid (P2.out h2)
        generalize dv (l.drop K) = z at *
        generalize dn (l.drop K) = y at *
        generalize de (l.drop K) = r at *
        have h2' : (r != 0) = true := by simpa using h2
        clear fz
        refine c1.mono ?_
        rintro e w' ⟨rfl, rfl⟩
        go_wp2_with fail
        refine c2.mono ?_
        rintro e w' ⟨rfl, rfl⟩
        go_wp2_with (first | (refine wpList_store_pn rfl rfl _ _ rfl g1 (by exact rfl) ⟨#[]⟩ false 0 (by exact rfl) _ _ _ hR1 ?_; intro W9 hR9 hG9))
        have hb9 := below_row HB1.out hG9 (Nat.le_refl _) hg1
        refine ret_pn3 2 3 4 rfl g1 rfl _ _ _ hR9 _ _ rfl rfl rfl ⟨pd_end HR.out, hb9⟩

  · have HR := Lib.hid (pdr_1 h1)
    have h1' : (dte l != 0) = true := by simpa using h1
    refine c1.mono ?_
    rintro e w' ⟨rfl, rfl⟩
    go_wp2_with (first | (refine wpList_store_pn rfl rfl _ _ rfl g1 (by exact rfl) ⟨#[]⟩ false 0 (by exact rfl) _ _ _ hR1 ?_; intro W9 hR9 hG9))
    have hb9 := below_row HB1.out hG9 (Nat.le_refl _) hg1
    refine ret_pn3 2 3 4 rfl g1 rfl _ _ _ hR9 _ _ rfl rfl rfl ⟨pd_end HR.out, hb9⟩
end

section
open Go.RowKit

theorem kV : PnVal 9 := pnValid_any qVn
theorem kE : PnEnc 5 := pnEnc_any kV
theorem kD : PnDec 7 := pnDec_any qVn
theorem kC : PnCmp 12 := pnCmp_any
end

section
open Go.RowKit Go.Shelf

def exP : List UInt8 := [3, 97, 46, 98, 1, 5]
theorem ex22_ok : pinOk ⟨[97, 46, 98], true, 5⟩ = true := by decide +kernel
theorem ex22_enc : pinEnc ⟨ls ⟨#[97, 46, 98]⟩, true, 5⟩ = (exP, 0) := by decide +kernel
theorem ex22_pin : pinDec exP = (⟨[97, 46, 98], true, 5⟩, 6, 0) := by decide +kernel
theorem ex22_c1 : cmpN (ls ⟨#[99, 111, 109]⟩) (ls ⟨#[97, 46, 99, 111, 109]⟩) = -1 := by decide +kernel
theorem ex22_c2 : cmpN (ls ⟨#[120, 46, 97, 46, 99, 111, 109]⟩) (ls ⟨#[98, 46, 99, 111, 109]⟩) = -1 := by decide +kernel

set_option maxRecDepth 20000 in
set_option maxHeartbeats 2000000 in
theorem awake22_any (hV : PnVal 9) (hE : PnEnc 5) (hD : PnDec 7) (hC : PnCmp 12) (w : World) : Calls Tryz.prog 4 #[] w (Yes w) := by
  have cE := hE ⟨#[97, 46, 98]⟩ true 5 w (by decide)
  rw [ex22_enc] at cE
  have cV := fun W => hV ⟨#[97, 46, 98]⟩ true 5 W (by decide)
  rw [show pinOk ⟨ls ⟨#[97, 46, 98]⟩, true, 5⟩ = true from ex22_ok] at cV
  have c1 := fun W => hC ⟨#[99, 111, 109]⟩ ⟨#[97, 46, 99, 111, 109]⟩ W (by decide) (by decide)
  rw [ex22_c1] at c1
  have c2 := fun W => hC ⟨#[120, 46, 97, 46, 99, 111, 109]⟩ ⟨#[98, 46, 99, 111, 109]⟩ W (by decide) (by decide)
  rw [ex22_c2] at c2
  have t0 : ((bs exP).toList == ([3, 97, 46, 98, 1, 5] : List UInt8)) = true := by rw [toList_ls]; rfl
  have t1 : ((bs [97, 46, 98]).toList == ([97, 46, 98] : List UInt8)) = true := by rw [toList_ls]; rfl
  go_enter Tryz.func4, Tryz.ntmps4
  go_wp2_with fail
  refine cE.mono ?_
  rintro e w1 ⟨⟨v, rfl, ho⟩, hb1⟩
  have ho : w1.ownsRow w.heap.size 5 1 v 6 (exP.map bv) := ho
  obtain ⟨A, c, rfl, hh, hc⟩ := Has.of_own ho
  have cD := hD A 6 c _ exP w1 hh hc (own_cap ho _ _ _ rfl) (by omega) (Nat.le_refl _)
  obtain ⟨e1, e2, e3, e4, e5⟩ := pdr_of ex22_pin
  rw [e1, e2, e3, e4, e5] at cD
  clear e1 e2 e3 e4 e5 cE ho
  have HH := Lib.hid hh
  clear hh
  go_wp2_with fail
  refine cD.mono ?_
  rintro e w2 ⟨rfl, hb2⟩
  have HB2 := Lib.hid (hb1.trans (hb2.mono hb1.size))
  go_wp2_with (first
    | (refine wpList_alloc_arr _ rfl 3 rfl _ rfl _ zeroPn ?_; intro W3 g3 hg3 hl3 hR3 hG3; have hR3 : RowPn W3 g3 ⟨#[]⟩ false 0 := hR3)
    | (refine wpList_store_pn rfl rfl _ _ rfl g3 (by exact rfl) (bs [97, 46, 98]) true 5 (by exact rfl) _ _ _ hR3 ?_
       intro W4 hR4 hG4
       have b3 := below_row0 (Below.refl w2.heap.size w2) hG3 (Nat.le_refl _)
       have b4 := below_row b3 hG4 (Nat.le_refl _) hg3
       have hcv := str_has W4 A 6 c _ _ ((HH.out.below hb2).below' b4 hb2.size)
       obtain ⟨x0, x1, x2⟩ := RowPn.cells hR4
       have hb4 := Lib.hid b4
       clear b3 b4 hG3 hG4))
  refine (c1 _).mono ?_
  rintro e w5 ⟨rfl, hb5⟩
  go_wp2_with fail
  refine (c2 _).mono ?_
  rintro e w6 ⟨rfl, hb6⟩
  have hR6 : RowPn w6 g3 (bs [97, 46, 98]) true 5 := Row.below (Row.below hR4 hb5 (Row.lt hR4)) (hb6.mono hb5.size) (Row.lt hR4)
  go_wp2_with (first | (refine wpList_load_pn (by rfl) _ rfl g3 (by exact rfl) _ _ _ hR6 ?_))
  refine (cV _).mono ?_
  rintro e w7 ⟨rfl, hb7⟩
  go_wp2
  go_ret
  have B4 := HB2.out.trans (hb4.out.mono HB2.out.size)
  have B5 := B4.trans (hb5.mono B4.size)
  have B6 := B5.trans (hb6.mono B5.size)
  exact ⟨rfl, B6.trans (hb7.mono B6.size)⟩
end

section
open Go.RowKit

theorem val_part {l : List UInt8} {n : Nat} (h : dec l = (val (l.take (n + 1)), n + 1, 0)) (t : Nat) : val ((l.take (n + 1)).drop t) < 18446744073709551616 := by
  have h1 := dec_canon (l := l) (by rw [h])
  rw [h] at h1
  have := val_drop_le (l.take (n + 1)) t
  have := h1.2.2.2.2
  simp only at this
  omega
theorem val_part_step (l : List UInt8) (n i : Nat) (hi : i ≤ n) (hl : n < l.length) : val ((l.take (n + 1)).drop i) = l[i].toNat % 128 + 128 * val ((l.take (n + 1)).drop (i + 1)) := by
  rw [val_drop_step _ i (by rw [List.length_take]; omega), List.getElem_take]

theorem val_gone (l : List UInt8) (k : Nat) : (0 : Int) = (val ((l.take (k + 1)).drop ((k : Int) + 1).toNat) : Int) := by
  rw [show ((k : Int) + 1).toNat = k + 1 by omega, List.drop_eq_nil_of_le (by rw [List.length_take]; omega)]
  rfl

set_option maxHeartbeats 4000000 in
theorem refDecUint_any (A : Option Addr) (len cap B : Nat) (l : List UInt8) (w : World) (hA : Has w B A len (l.map bv)) (hlen : len ≤ 1000000000) :
    Calls Tryz.prog 21 #[.slice A len cap] w fun e w' => e = .returned (.tuple #[.int .u64 (dv l), .int .i64 (dn l), .int .i64 (de l)]) ∧ w = w' := by
  have HL : Hid (l.length = len) := by show _ = _; simpa using hA.1
  have HA := Lib.hid hA
  clear hA
  go_enter Tryz.func21, Tryz.ntmps21
  go_wp2
  go_loop [6] (fun i => ∃ (k : Nat), k ≤ len ∧ k ≤ 10 ∧ i = .int .i64 k ∧ Hid (∀ j, j < k → 128 ≤ (l.getD j 0).toNat)) (fun i => 10 - (intOf i).toNat)
  case atStart => exact ⟨0, Nat.zero_le _, Nat.zero_le _, rfl, Lib.hid (by simp)⟩
  case round =>
    obtain ⟨k, hk, hk10, rfl, HS⟩ := hrel
    by_cases hten : k = 10
    · have HD := Lib.hid (d_of (dec_ten (l := l) (by rw [cont_of (n := k) (by omega) (by rw [HL.out]; exact hk) HS.out (fun h => by omega)]; exact hten)))
      have hb : ¬ (k : Int) < 10 := by omega
      have he : ((k : Int) == 10) = true := by simp; omega
      clear hten
      go_wp2
      go_ret3
      exact ⟨by rw [HD.out.1, HD.out.2.1, HD.out.2.2]; rfl, rfl⟩
    have hlt10 : (k : Int) < 10 := by omega
    have hne10 : ((k : Int) == 10) = false := by simp; omega
    by_cases hend : k = len
    · have HD := Lib.hid (d_of (dec_end (l := l) (by rw [cont_of (n := k) (by omega) (by rw [HL.out]; exact hk) HS.out (fun _ h => by rw [HL.out] at h; omega), HL.out]; exact hend) (by rw [HL.out]; omega)))
      have hb : ¬ (k : Int) < (len : Int) := by omega
      have he : ((k : Int) == (len : Int)) = true := by simp; omega
      clear hend hten
      go_wp2
      go_ret3
      exact ⟨by rw [HD.out.1, HD.out.2.1, HD.out.2.2]; rfl, rfl⟩
    have hltl : (k : Int) < (len : Int) := by omega
    have hnel : ((k : Int) == (len : Int)) = false := by simp; omega
    have hkl : k < len := by omega
    have hks : k < l.length := by rw [HL.out]; exact hkl
    obtain ⟨b, off, rfl, hb, hc⟩ := HA.out.at_ hkl
    rw [List.getElem_map, bv_eq] at hc
    have hbl := byte_lt l[k]
    obtain ⟨y, hy⟩ : ∃ y : Int, y = (l[k].toNat : Int) := ⟨_, rfl⟩
    rw [← hy] at hc hbl
    have hy0 : 0 ≤ y := by omega
    have HY := Lib.hid hy
    clear hy hten hend
    by_cases hbig : 128 ≤ y
    · have HN : Hid (∀ j, j < k + 1 → 128 ≤ (l.getD j 0).toNat) := Lib.hid (fun j hj => by
        by_cases e : j = k
        · subst e; rw [getD_at l j hks]; have := HY.out; omega
        · exact HS.out j (by omega))
      go_wp2
      go_round
      case rel => exact ⟨k + 1, by omega, by omega, by go_num, HN⟩
      case measure => simp [intOf]; omega
    · have HC := Lib.hid (cont_of (f := 10) (n := k) (by omega) (by rw [HL.out]; exact hk) HS.out (fun _ _ => by rw [getD_at l k hks]; have := HY.out; omega))
      by_cases hbad1 : k = 9 ∧ 1 < y
      · obtain ⟨hk9, hy1⟩ := hbad1
        have HD := Lib.hid (d_of (dec_big HC.out hks hk9 (by have := HY.out; omega)))
        have hk9' : ((k : Int) == 9) = true := by simp; omega
        subst hk9
        go_wp2
        go_ret3
        exact ⟨by rw [HD.out.1, HD.out.2.1, HD.out.2.2]; rfl, rfl⟩
      by_cases hbad2 : 0 < k ∧ y = 0
      · obtain ⟨hk0, hy1⟩ := hbad2
        have HD := Lib.hid (d_of (dec_zero HC.out hks hk0 (by omega) (by have := HY.out; omega)))
        have hk0' : (0 : Int) < (k : Int) := by omega
        subst hy1
        by_cases hk9 : k = 9
        · subst hk9
          go_wp2
          go_ret3
          exact ⟨by rw [HD.out.1, HD.out.2.1, HD.out.2.2]; rfl, rfl⟩
        · have hk9' : ((k : Int) == 9) = false := by simp; omega
          clear hbad1
          go_wp2
          go_ret3
          exact ⟨by rw [HD.out.1, HD.out.2.1, HD.out.2.2]; rfl, rfl⟩
      have hdec := dec_val HC.out hks (by omega) (fun e => by have := HY.out; omega) (fun e => by have := HY.out; omega)
      have HP := Lib.hid (val_part hdec)
      have HD := Lib.hid (d_of hdec)
      clear hdec
      by_cases hk9 : k = 9
      · have hy1 : ¬ 1 < y := by omega
        have hy2 : (y == 0) = false := by simp; omega
        clear hbad1 hbad2
        subst hk9
        go_wp2
        go_loop [5, 7] (fun v i => ∃ (j z : Int), -1 ≤ j ∧ j ≤ (9 : Int) ∧ 0 ≤ z ∧ i = .int .i64 j ∧ v = .int .u64 z ∧ Hid (z = (val ((l.take (9 + 1)).drop (j + 1).toNat) : Int))) (fun _ i => (intOf i + 1).toNat)
        case atStart => exact ⟨(9 : Int), 0, by omega, by omega, by omega, rfl, rfl, Lib.hid (val_gone l 9)⟩
        case round =>
          obtain ⟨j, z, hj1, hjk, hz0, rfl, rfl, HZ⟩ := hrel
          by_cases hj0 : 0 ≤ j
          · obtain ⟨t, rfl⟩ : ∃ t : Nat, j = (t : Int) := ⟨j.toNat, by omega⟩
            have htl : t < len := by omega
            have hts : t < l.length := by rw [HL.out]; exact htl
            obtain ⟨b2, off2, he2, hb2, hc2⟩ := HA.out.at_ htl
            cases he2
            rw [List.getElem_map, bv_eq] at hc2
            have hbl2 := byte_lt l[t]
            obtain ⟨x, hx⟩ : ∃ x : Int, x = (l[t].toNat : Int) := ⟨_, rfl⟩
            rw [← hx] at hc2 hbl2
            have hx0 : 0 ≤ x := by omega
            obtain ⟨r, hr⟩ : ∃ r : Int, x % 128 = r := ⟨_, rfl⟩
            have hr0 : 0 ≤ r := by omega
            have hr1 : r < 128 := by omega
            have hN : z * 128 + r = (val ((l.take (9 + 1)).drop t) : Int) := by
              rw [HZ.out, val_part_step l 9 t (by omega) hks, ← hr, hx, show ((t : Int) + 1).toNat = t + 1 by omega]
              push_cast
              omega
            have hzb : z * 128 + r < 18446744073709551616 := by have := HP.out t; omega
            have HN : Hid (z * 128 + r = (val ((l.take (9 + 1)).drop ((t : Int) - 1 + 1).toNat) : Int)) := by
              refine Lib.hid ?_
              rw [show ((t : Int) - 1 + 1).toNat = t by omega]
              exact hN
            clear hN hx HZ
            go_wp2
            go_round
            case rel => exact ⟨(t : Int) - 1, z * 128 + r, by omega, by omega, by omega, by go_num, by go_num, HN⟩
            case measure => simp [intOf]
          · have hjm : j = -1 := by omega
            subst hjm
            have HF := Lib.hid (show z = (val (l.take (9 + 1)) : Int) from HZ.out)
            clear HZ
            go_wp2
            go_ret3
            exact ⟨by rw [HD.out.1, HD.out.2.1, HD.out.2.2, ← HF.out]; rfl, rfl⟩
      · have hk9' : ((k : Int) == 9) = false := by simp; omega
        by_cases hk0 : k = 0
        · have hk0' : ¬ (0 : Int) < (k : Int) := by omega
          clear hk9 hk0 hbad1 hbad2
          go_wp2
          go_loop [5, 7] (fun v i => ∃ (j z : Int), -1 ≤ j ∧ j ≤ (k : Int) ∧ 0 ≤ z ∧ i = .int .i64 j ∧ v = .int .u64 z ∧ Hid (z = (val ((l.take (k + 1)).drop (j + 1).toNat) : Int))) (fun _ i => (intOf i + 1).toNat)
          case atStart => exact ⟨(k : Int), 0, by omega, by omega, by omega, rfl, rfl, Lib.hid (val_gone l k)⟩
          case round =>
            obtain ⟨j, z, hj1, hjk, hz0, rfl, rfl, HZ⟩ := hrel
            by_cases hj0 : 0 ≤ j
            · obtain ⟨t, rfl⟩ : ∃ t : Nat, j = (t : Int) := ⟨j.toNat, by omega⟩
              have htl : t < len := by omega
              have hts : t < l.length := by rw [HL.out]; exact htl
              obtain ⟨b2, off2, he2, hb2, hc2⟩ := HA.out.at_ htl
              cases he2
              rw [List.getElem_map, bv_eq] at hc2
              have hbl2 := byte_lt l[t]
              obtain ⟨x, hx⟩ : ∃ x : Int, x = (l[t].toNat : Int) := ⟨_, rfl⟩
              rw [← hx] at hc2 hbl2
              have hx0 : 0 ≤ x := by omega
              obtain ⟨r, hr⟩ : ∃ r : Int, x % 128 = r := ⟨_, rfl⟩
              have hr0 : 0 ≤ r := by omega
              have hr1 : r < 128 := by omega
              have hN : z * 128 + r = (val ((l.take (k + 1)).drop t) : Int) := by
                rw [HZ.out, val_part_step l k t (by omega) hks, ← hr, hx, show ((t : Int) + 1).toNat = t + 1 by omega]
                push_cast
                omega
              have hzb : z * 128 + r < 18446744073709551616 := by have := HP.out t; omega
              have HN : Hid (z * 128 + r = (val ((l.take (k + 1)).drop ((t : Int) - 1 + 1).toNat) : Int)) := by
                refine Lib.hid ?_
                rw [show ((t : Int) - 1 + 1).toNat = t by omega]
                exact hN
              clear hN hx HZ
              go_wp2
              go_round
              case rel => exact ⟨(t : Int) - 1, z * 128 + r, by omega, by omega, by omega, by go_num, by go_num, HN⟩
              case measure => simp [intOf]
            · have hjm : j = -1 := by omega
              subst hjm
              have HF := Lib.hid (show z = (val (l.take (k + 1)) : Int) from HZ.out)
              clear HZ
              go_wp2
              go_ret3
              exact ⟨by rw [HD.out.1, HD.out.2.1, HD.out.2.2, ← HF.out]; rfl, rfl⟩
        · have hk0' : (0 : Int) < (k : Int) := by omega
          have hy2 : (y == 0) = false := by simp; omega
          clear hk9 hk0 hbad1 hbad2
          go_wp2
          go_loop [5, 7] (fun v i => ∃ (j z : Int), -1 ≤ j ∧ j ≤ (k : Int) ∧ 0 ≤ z ∧ i = .int .i64 j ∧ v = .int .u64 z ∧ Hid (z = (val ((l.take (k + 1)).drop (j + 1).toNat) : Int))) (fun _ i => (intOf i + 1).toNat)
          case atStart => exact ⟨(k : Int), 0, by omega, by omega, by omega, rfl, rfl, Lib.hid (val_gone l k)⟩
          case round =>
            obtain ⟨j, z, hj1, hjk, hz0, rfl, rfl, HZ⟩ := hrel
            by_cases hj0 : 0 ≤ j
            · obtain ⟨t, rfl⟩ : ∃ t : Nat, j = (t : Int) := ⟨j.toNat, by omega⟩
              have htl : t < len := by omega
              have hts : t < l.length := by rw [HL.out]; exact htl
              obtain ⟨b2, off2, he2, hb2, hc2⟩ := HA.out.at_ htl
              cases he2
              rw [List.getElem_map, bv_eq] at hc2
              have hbl2 := byte_lt l[t]
              obtain ⟨x, hx⟩ : ∃ x : Int, x = (l[t].toNat : Int) := ⟨_, rfl⟩
              rw [← hx] at hc2 hbl2
              have hx0 : 0 ≤ x := by omega
              obtain ⟨r, hr⟩ : ∃ r : Int, x % 128 = r := ⟨_, rfl⟩
              have hr0 : 0 ≤ r := by omega
              have hr1 : r < 128 := by omega
              have hN : z * 128 + r = (val ((l.take (k + 1)).drop t) : Int) := by
                rw [HZ.out, val_part_step l k t (by omega) hks, ← hr, hx, show ((t : Int) + 1).toNat = t + 1 by omega]
                push_cast
                omega
              have hzb : z * 128 + r < 18446744073709551616 := by have := HP.out t; omega
              have HN : Hid (z * 128 + r = (val ((l.take (k + 1)).drop ((t : Int) - 1 + 1).toNat) : Int)) := by
                refine Lib.hid ?_
                rw [show ((t : Int) - 1 + 1).toNat = t by omega]
                exact hN
              clear hN hx HZ
              go_wp2
              go_round
              case rel => exact ⟨(t : Int) - 1, z * 128 + r, by omega, by omega, by omega, by go_num, by go_num, HN⟩
              case measure => simp [intOf]
            · have hjm : j = -1 := by omega
              subst hjm
              have HF := Lib.hid (show z = (val (l.take (k + 1)) : Int) from HZ.out)
              clear HZ
              go_wp2
              go_ret3
              exact ⟨by rw [HD.out.1, HD.out.2.1, HD.out.2.2, ← HF.out]; rfl, rfl⟩
end

section
open Go.RowKit

attribute [local irreducible] dt dtn dte


set_option maxRecDepth 100000 in
set_option maxHeartbeats 2000000 in
theorem refDecText_any (A : Option Addr) (len cap B : Nat) (l : List UInt8) (w : World) (hA : Has w B A len (l.map bv)) (hlc : len ≤ cap) (_hcap : cap ≤ maxLen) (hlen : len ≤ 1000000000) :
    Calls Tryz.prog 20 #[.slice A len cap] w fun e w' => e = .returned (.tuple #[.string (dt l), .int .i64 (dtn l), .int .i64 (dte l)]) ∧ w = w' := by
  have hcall := refDecUint_any A len cap B l w hA hlen
  have HL : Hid (l.length = len) := by show _ = _; simpa using hA.1
  have HA := Lib.hid hA
  clear hA
  have hv0 := dv_ge l
  have hv1 := dv_lt l
  have hn0 := dn_ge l
  have he0 := de_ge l
  by_cases hbad : de l = 0
  · obtain ⟨hn1, hn2, hn3⟩ : 1 ≤ dn l ∧ dn l ≤ l.length ∧ dn l ≤ 10 := by
      obtain ⟨_, h1, h2, h3, _⟩ := d_zero hbad
      exact ⟨h1, h2, h3⟩
    rw [HL.out] at hn2
    have hz : (de l != 0) = false := by rw [hbad]; rfl
    by_cases hlim : 4096 < dv l
    · have HT := Lib.hid (t_limit hbad hlim)
      have HB := Lib.hid hbad
      clear hbad
      go_enter Tryz.func20, Tryz.ntmps20
      go_wp2_with fail
      refine hcall.mono ?_
      rintro e w' ⟨rfl, rfl⟩
      go_wp2
      go_ret3
      exact ⟨by rw [HT.out.1, HT.out.2.1, HT.out.2.2]; rfl, rfl⟩
    · by_cases hsh : (len : Int) < dn l + dv l
      · have HT := Lib.hid (t_short hbad (by omega) (by rw [HL.out]; exact hsh))
        have hsh2 : (len : Int) - dn l < dv l := by omega
        have HB := Lib.hid hbad
        clear hbad
        go_enter Tryz.func20, Tryz.ntmps20
        go_wp2_with fail
        refine hcall.mono ?_
        rintro e w' ⟨rfl, rfl⟩
        go_wp2
        go_ret3
        exact ⟨by rw [HT.out.1, HT.out.2.1, HT.out.2.2]; rfl, rfl⟩
      · obtain ⟨s, hs⟩ : ∃ s : Nat, dn l = (s : Int) := ⟨(dn l).toNat, by omega⟩
        obtain ⟨k, hk⟩ : ∃ k : Nat, dv l = (k : Int) := ⟨(dv l).toNat, by omega⟩
        have HT := Lib.hid (t_ok hbad (by omega) (by rw [HL.out]; omega) hs hk)
        have HB := Lib.hid hbad
        clear hbad
        obtain ⟨b, off, rfl⟩ : ∃ b off, A = some ⟨b, off, none⟩ := by
          obtain ⟨b, off, e, _⟩ := HA.out.at_ (show 0 < len by omega)
          exact ⟨b, off, e⟩
        obtain ⟨E, hE⟩ : ∃ E : Nat, E = s + k := ⟨_, rfl⟩
        rw [hs, hk] at hcall hsh
        rw [hk] at hlim
        rw [hs] at hn0 hn1 hn2 hn3
        rw [hk] at hv0 hv1
        have hsum : (s : Int) + (k : Int) = (E : Int) := by omega
        have hEs : E - s = k := by omega
        have hsE : s ≤ E := by omega
        have hEl : E ≤ len := by omega
        have hEc : E ≤ cap := by omega
        have hsh3 : ¬ (len : Int) < (E : Int) := by omega
        have hsh4 : ¬ (len : Int) - (s : Int) < (k : Int) := by omega
        have HS := Lib.hid hs
        have HK := Lib.hid hk
        have HE := Lib.hid hE
        clear hs hk hE
        have hkb : (k : Int) ≤ 4096 := by omega
        clear hv1 hlim
        by_cases hcs : cap = s
        · have hk0 : k = 0 := by have := HE.out; omega
          have hE2 : E = s := by have := HE.out; omega
          have hconv : ∀ ad, (convert 24 9 (.slice (some ad) 0 0)).run Tryz.prog w = .ok (.string (bs [])) w := fun ad => str_has w (some ad) 0 0 w.heap.size [] (Has.nil _ _ _)
          subst hk0 hE2 hcs
          go_enter Tryz.func20, Tryz.ntmps20
          go_wp2_with fail
          refine hcall.mono ?_
          rintro e w' ⟨rfl, rfl⟩
          go_wp2
          go_ret3
          exact ⟨by rw [HT.out.1, HT.out.2.1, HT.out.2.2, HS.out, HK.out]; simp, rfl⟩
        · have hp := HA.out.part s k (by omega)
          rw [← List.map_drop, ← List.map_take] at hp
          have hconv := str_has w _ k (cap - s) _ _ hp
          have hcs' : ¬ cap - s = 0 := by omega
          go_enter Tryz.func20, Tryz.ntmps20
          go_wp2_with fail
          refine hcall.mono ?_
          rintro e w' ⟨rfl, rfl⟩
          go_wp2
          go_ret3
          exact ⟨by rw [HT.out.1, HT.out.2.1, HT.out.2.2, HS.out, HK.out, hsum]; rfl, rfl⟩
  · have HT := Lib.hid (t_bad hbad)
    have hz : (de l != 0) = true := by simpa using hbad
    clear hbad
    go_enter Tryz.func20, Tryz.ntmps20
    go_wp2_with fail
    refine hcall.mono ?_
    rintro e w' ⟨rfl, rfl⟩
    go_wp2
    go_ret3
    exact ⟨by rw [HT.out.1, HT.out.2.1, HT.out.2.2]; rfl, rfl⟩
end

end Go.Proofs.YthoolifdmemceaaGreatDoor
