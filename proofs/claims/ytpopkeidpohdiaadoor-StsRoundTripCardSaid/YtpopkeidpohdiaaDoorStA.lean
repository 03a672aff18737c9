/-
  Package sts: Parse.
-/
import Derived.Test.YtpopkeidpohdiaaDoorStI
import Derived.Test.YtpopkeidpohdiaaDoorPvM
import Derived.Test.YtpopkeidpohdiaaDoorSecQ
import Derived.Test.YtpopkeidpohdiaaDoorDiC
import Derived.Test.YtpopkeidpohdiaaDoorDiU
namespace Go.Proofs.YtpopkeidpohdiaaDoor
open Go.RowKit

theorem sm_of_len {m : Nat} {l : List Dv} (h : LenDv m l) (hm : m ≤ 1000000) : SmDv l := fun d hd => by have := h d hd; omega
theorem sm_by {l : List Dv} (h : SmDv l) (n : List UInt8) : (bs ((byN l n).getD dvZ).value).size ≤ 1000000000 := by
  rw [bs_size]
  cases hb : byN l n with
  | none => simp [dvZ]
  | some d =>
    have := (h d (byN_name hb).2).2
    simp
    omega
/-- What Parse returns. -/
def PolPost (R : Pv × Int) (w : World) (e : Ending) (w' : World) : Prop := e = .returned (.tuple #[.agg #[.int .i64 R.1.age, .bool R.1.sub], .int .i64 R.2]) ∧ Below w.heap.size w w'
theorem pol_ret {R : Pv × Int} {w w' : World} {a r : Int} {s : Bool} (h : R = (⟨a, s⟩, r)) (hb : Below w.heap.size w w') : PolPost R w (.returned (.tuple #[.agg #[.int .i64 a, .bool s], .int .i64 r])) w' := by
  rw [h]
  exact ⟨rfl, hb⟩
/-- The result's variable, while the call goes on. -/
structure RSt19 (w W : World) (p : Nat) (a : Int) (s : Bool) : Prop where
  row : RowPv W p a s
  bel : Below w.heap.size w W
  hp : w.heap.size ≤ p
section
variable {w W W' : World} {p g : Nat} {a a' : Int} {s s' : Bool}
theorem RSt19.start (hp : w.heap.size ≤ p) (hr : RowPv W p a s) (hg : w.grownBy W none) : RSt19 w W p a s := ⟨hr, below_row0 (Below.refl _ _) hg (Nat.le_refl _), hp⟩
theorem RSt19.call (h : RSt19 w W p a s) (hb : Below W.heap.size W W') : RSt19 w W' p a s := ⟨Row.below h.row hb (Row.lt h.row), h.bel.trans (hb.mono h.bel.size), h.hp⟩
theorem RSt19.grow0 (h : RSt19 w W p a s) (hg : W.grownBy W' none) : RSt19 w W' p a s := ⟨Row.grown0 h.row hg, below_row0 h.bel hg (Nat.le_refl _), h.hp⟩
theorem RSt19.grow (h : RSt19 w W p a s) (hg : W.grownBy W' (some g)) (hw : w.heap.size ≤ g) (hn : p ≠ g) : RSt19 w W' p a s := ⟨Row.grown h.row hg hn, below_row h.bel hg (Nat.le_refl _) hw, h.hp⟩
theorem RSt19.final (h : RSt19 w W p a s) (hg : W.grownBy W' (some p)) : Below w.heap.size w W' := below_row h.bel hg (Nat.le_refl _) h.hp
theorem RSt19.lt (h : RSt19 w W p a s) : p < W.heap.size := Row.lt h.row
end
theorem MapDv.grow0 {w w' : World} {mb k : Nat} {D : DataW Value} {l : List Dv} (h : MapDv w mb k D l) (hg : w.grownBy w' none) : MapDv w' mb k D l := h.kept hg (by simp)
theorem MapDv.grow {w w' : World} {mb k g : Nat} {D : DataW Value} {l : List Dv} (h : MapDv w mb k D l) (hg : w.grownBy w' (some g)) (hn : mb ≠ g) : MapDv w' mb k D l := h.kept hg (fun e => by injection e with e; exact hn e)

set_option maxRecDepth 20000 in
set_option maxHeartbeats 8000000 in
theorem stsParse_any (s : ByteArray) (hs : s.size ≤ 1000000) (w : World) :
    Calls Tryd.prog 7 #[.string s] w (PolPost (stsP (ls s)) w) := by
  have hS := sm_of_len (dirL_lens (ls s)) (by rw [ls_length]; omega)
  have c1 := fun W => dirParse_any s (by omega) W
  have hlen := dirL_len (ls s)
  have hR0 : stsP (ls s) = if (dirL (ls s)).2 = 0 then polL (dirL (ls s)).1 else (pv0, (dirL (ls s)).2) := rfl
  generalize stsP (ls s) = R at *
  generalize (dirL (ls s)).1 = l at *
  generalize (dirL (ls s)).2 = r at *
  by_cases hr : r = 0
  · subst hr
    rw [if_pos rfl] at hR0
    have hS1 := sm_by hS nmA
    cases hdup : dupL l with
    | true =>
      rw [pol_dup hdup] at hR0
      have HX := Lib.hid hR0
      have HD := Lib.hid hdup
      have HS := Lib.hid hS
      clear hR0 hdup hS hS1
      go_enter Tryd.func7, Tryd.ntmps7
      go_wp2_with (first | (refine wpList_alloc_arr _ rfl 2 rfl _ rfl #[.int .i64 0, .bool false] zeroPv ?_; intro W2 p2 hp2 hq2 hR2 hG2))
      have hE := RSt19.start hp2 hR2 hG2
      clear hp2 hq2 hR2 hG2
      refine (c1 _).mono ?_
      rintro e w1 ⟨A, c, rfl, hc, _, hh, hb⟩
      have c2 := index_any A l.length c w1.heap.size l w1 hh HS.out (by omega) hc (Nat.le_refl _)
      have hE := hE.call hb
      clear hb hh
      go_wp2_with fail
      refine c2.mono ?_
      rintro e w2 ⟨hb, hx⟩
      have hE := hE.call hb
      rcases hx with ⟨_, rfl⟩ | ⟨hx, _⟩
      · clear hb
        go_wp2_with (first | (refine wpList_store_pv rfl rfl _ _ rfl p2 (by exact rfl) 0 false (by exact rfl) _ _ hE.row ?_; intro W9 hr9 hG9))
        have hF := hE.final hG9
        exact ret_pv 2 3 rfl p2 rfl _ _ hr9 _ rfl rfl (pol_ret HX.out hF)
      · exact absurd (HD.out.symm.trans hx) (by decide)
    | false =>
      rw [pol_by2 hdup] at hR0
      have HD := Lib.hid hdup
      have HS := Lib.hid hS
      have e1 : ls ⟨#[109, 97, 120, 45, 97, 103, 101]⟩ = nmA := by decide
      have e2 : ls ⟨#[105, 110, 99, 108, 117, 100, 101, 115, 117, 98, 100, 111, 109, 97, 105, 110, 115]⟩ = nmI := by decide
      obtain ⟨d, hd⟩ : ∃ d, (byN l nmA).getD dvZ = d := ⟨_, rfl⟩
      obtain ⟨q, hq⟩ : ∃ q, (byN l nmA).isSome = q := ⟨_, rfl⟩
      obtain ⟨d', hd'⟩ : ∃ d, (byN l nmI).getD dvZ = d := ⟨_, rfl⟩
      obtain ⟨q', hq'⟩ : ∃ q, (byN l nmI).isSome = q := ⟨_, rfl⟩
      rw [hd, hq, hd', hq'] at hR0
      rw [hd] at hS1
      rw [← e1] at hd hq
      rw [← e2] at hd' hq'
      have c3 := fun W => parse_any (bs d.value) W hS1
      generalize perV (bs d.value) = x at *
      generalize digitsB (bs d.value) = dg at *
      have hM : ∀ (W : World) (mb k : Nat) (D : DataW Value), MapDv W mb k D l → MapDv W mb k D l := fun _ _ _ _ h => h
      clear hS hdup hS1 e1 e2
      obtain ⟨H, hh'⟩ : ∃ H, d'.has = H := ⟨_, rfl⟩
      rw [hh'] at hR0
      have HH := Lib.hid hh'
      clear hh'
      have HX := Lib.hid hR0
      clear hR0
      go_enter Tryd.func7, Tryd.ntmps7
      go_wp2_with (first | (refine wpList_alloc_arr _ rfl 2 rfl _ rfl #[.int .i64 0, .bool false] zeroPv ?_; intro W2 p2 hp2 hq2 hR2 hG2))
      have hE := RSt19.start hp2 hR2 hG2
      clear hp2 hq2 hR2 hG2
      refine (c1 _).mono ?_
      rintro e w1 ⟨A, c, rfl, hc, _, hh, hb⟩
      have c2 := index_any A l.length c w1.heap.size l w1 hh HS.out (by omega) hc (Nat.le_refl _)
      have hE := hE.call hb
      clear hb hh
      go_wp2_with fail
      refine c2.mono ?_
      rintro e w2 ⟨hb, hx⟩
      have hlt1 := hE.lt
      have hE := hE.call hb
      rcases hx with ⟨hx, _⟩ | ⟨_, rfl, k, D, hM⟩
      · exact absurd (HD.out.symm.trans hx) (by decide)
      · clear hb
        generalize w1.heap.size = mb at *
        have hlt2 := hE.lt
        have hmb := hM.own.lt
        go_wp2_with (first
          | (at_lookup; refine wpList_look_any rfl _ _ rfl hM (by exact rfl) ⟨#[109, 97, 120, 45, 97, 103, 101]⟩ (by exact rfl) (by decide) d hd q hq ?_)
          | (refine wpList_alloc_arr _ rfl 8 rfl _ rfl dz zeroDv ?_; intro W3 p8 hp8 hq8 hR8 hG8)
          | (refine wpList_store_dv rfl rfl _ _ rfl p8 (by exact rfl) (bs d.name) (bs d.value) d.has (by exact rfl) _ _ _ hR8 ?_
             intro W4 hr8 hG4
             have hE4 := (hE.grow0 hG8).grow hG4 (Nat.le_trans hE.bel.size hp8) (by omega)
             have hM4 := (hM.grow0 hG8).grow hG4 (by omega)
             have c81 := (RowDv.cells hr8).2.1
             clear hr8 hG4 hG8 hR8))
        refine (c3 _).mono ?_
        rintro e w5 ⟨rfl, hb⟩
        have hE5 := hE4.call hb
        have hM5 := hM4.below hb
        clear hb hE4 hM4 hE hM c81 hlt2 hmb hp8 hq8
        have hlt5 := hE5.lt
        have hmb5 := hM5.own.lt
        have hcase : (q = true ∧ dg = false) ∨ (q = false ∧ H = true) ∨ (q = true ∧ dg = true ∧ H = true) ∨ (q = false ∧ H = false) ∨ (q = true ∧ dg = true ∧ H = false) := by
          cases q <;> cases dg <;> cases H <;> decide
        rcases hcase with ⟨rfl, rfl⟩ | ⟨rfl, rfl⟩ | ⟨rfl, rfl, rfl⟩ | ⟨rfl, rfl⟩ | ⟨rfl, rfl, rfl⟩
        · have HX2 : Hid (R = (⟨0, false⟩, 6)) := by
            show _ = _
            rw [HX.out]
            simp [pv0]
          clear HX
          go_wp2_with (first | (refine wpList_store_pv rfl rfl _ _ rfl p2 (by exact rfl) 0 false (by exact rfl) _ _ hE5.row ?_; intro W9 hr9 hG9))
          have hF := hE5.final hG9
          exact ret_pv 2 3 rfl p2 rfl _ _ hr9 _ rfl rfl (pol_ret HX2.out hF)
        · have HX2 : Hid (R = (⟨0, false⟩, 6)) := by
            show _ = _
            rw [HX.out]
            simp [pv0]
          clear HX
          go_wp2_with (first
            | (at_lookup; refine wpList_look_any rfl _ _ rfl hM5 (by exact rfl) ⟨#[105, 110, 99, 108, 117, 100, 101, 115, 117, 98, 100, 111, 109, 97, 105, 110, 115]⟩ (by exact rfl) (by decide) d' hd' q' hq' ?_)
            | (refine wpList_alloc_arr _ rfl 11 rfl _ rfl dz zeroDv ?_; intro W6 p11 hp11 hq11 hR11 hG11)
            | (refine wpList_store_dv rfl rfl _ _ rfl p11 (by exact rfl) (bs d'.name) (bs d'.value) d'.has (by exact rfl) _ _ _ hR11 ?_
               intro W7 hr11 hG7
               have hE7 := (hE5.grow0 hG11).grow hG7 (Nat.le_trans hE5.bel.size hp11) (by omega)
               have c112 := (RowDv.cells hr11).2.2
               rw [HH.out] at c112
               clear hr11 hG7 hG11 hR11)
            | (refine wpList_store_pv rfl rfl _ _ rfl p2 (by exact rfl) 0 false (by exact rfl) _ _ hE7.row ?_; intro W9 hr9 hG9))
          have hF := hE7.final hG9
          exact ret_pv 2 3 rfl p2 rfl _ _ hr9 _ rfl rfl (pol_ret HX2.out hF)
        · have HX2 : Hid (R = (⟨0, false⟩, 6)) := by
            show _ = _
            rw [HX.out]
            simp [pv0]
          clear HX
          go_wp2_with (first
            | (at_lookup; refine wpList_look_any rfl _ _ rfl hM5 (by exact rfl) ⟨#[105, 110, 99, 108, 117, 100, 101, 115, 117, 98, 100, 111, 109, 97, 105, 110, 115]⟩ (by exact rfl) (by decide) d' hd' q' hq' ?_)
            | (refine wpList_alloc_arr _ rfl 11 rfl _ rfl dz zeroDv ?_; intro W6 p11 hp11 hq11 hR11 hG11)
            | (refine wpList_store_dv rfl rfl _ _ rfl p11 (by exact rfl) (bs d'.name) (bs d'.value) d'.has (by exact rfl) _ _ _ hR11 ?_
               intro W7 hr11 hG7
               have hE7 := (hE5.grow0 hG11).grow hG7 (Nat.le_trans hE5.bel.size hp11) (by omega)
               have c112 := (RowDv.cells hr11).2.2
               rw [HH.out] at c112
               clear hr11 hG7 hG11 hR11)
            | (refine wpList_store_pv rfl rfl _ _ rfl p2 (by exact rfl) 0 false (by exact rfl) _ _ hE7.row ?_; intro W9 hr9 hG9))
          have hF := hE7.final hG9
          exact ret_pv 2 3 rfl p2 rfl _ _ hr9 _ rfl rfl (pol_ret HX2.out hF)
        · have HX2 : Hid (R = (⟨0, false⟩, 18)) := by
            show _ = _
            rw [HX.out]
            simp [pv0]
          clear HX
          go_wp2_with (first
            | (at_lookup; refine wpList_look_any rfl _ _ rfl hM5 (by exact rfl) ⟨#[105, 110, 99, 108, 117, 100, 101, 115, 117, 98, 100, 111, 109, 97, 105, 110, 115]⟩ (by exact rfl) (by decide) d' hd' q' hq' ?_)
            | (refine wpList_alloc_arr _ rfl 11 rfl _ rfl dz zeroDv ?_; intro W6 p11 hp11 hq11 hR11 hG11)
            | (refine wpList_store_dv rfl rfl _ _ rfl p11 (by exact rfl) (bs d'.name) (bs d'.value) d'.has (by exact rfl) _ _ _ hR11 ?_
               intro W7 hr11 hG7
               have hE7 := (hE5.grow0 hG11).grow hG7 (Nat.le_trans hE5.bel.size hp11) (by omega)
               have c112 := (RowDv.cells hr11).2.2
               rw [HH.out] at c112
               clear hr11 hG7 hG11 hR11)
            | (refine wpList_store_pv rfl rfl _ _ rfl p2 (by exact rfl) 0 false (by exact rfl) _ _ hE7.row ?_; intro W9 hr9 hG9))
          have hF := hE7.final hG9
          exact ret_pv 2 3 rfl p2 rfl _ _ hr9 _ rfl rfl (pol_ret HX2.out hF)
        · have HX2 : Hid (R = (⟨x, q'⟩, 0)) := by
            show _ = _
            rw [HX.out]
            simp
          clear HX
          go_wp2_with (first
            | (at_lookup; refine wpList_look_any rfl _ _ rfl hM5 (by exact rfl) ⟨#[105, 110, 99, 108, 117, 100, 101, 115, 117, 98, 100, 111, 109, 97, 105, 110, 115]⟩ (by exact rfl) (by decide) d' hd' q' hq' ?_)
            | (refine wpList_alloc_arr _ rfl 11 rfl _ rfl dz zeroDv ?_; intro W6 p11 hp11 hq11 hR11 hG11)
            | (refine wpList_store_dv rfl rfl _ _ rfl p11 (by exact rfl) (bs d'.name) (bs d'.value) d'.has (by exact rfl) _ _ _ hR11 ?_
               intro W7 hr11 hG7
               have hE7 := (hE5.grow0 hG11).grow hG7 (Nat.le_trans hE5.bel.size hp11) (by omega)
               have c112 := (RowDv.cells hr11).2.2
               rw [HH.out] at c112
               clear hr11 hG7 hG11 hR11)
            | (refine wpList_store_pv rfl rfl _ _ rfl p2 (by exact rfl) x q' (by exact rfl) _ _ hE7.row ?_; intro W9 hr9 hG9))
          have hF := hE7.final hG9
          exact ret_pv 2 3 rfl p2 rfl _ _ hr9 _ rfl rfl (pol_ret HX2.out hF)
  · rw [if_neg hr] at hR0
    have HX := Lib.hid hR0
    have e1 : (r == 0) = false := by simp [hr]
    have e2 : (r != 0) = true := by simp [hr]
    clear hR0 hr hS
    go_enter Tryd.func7, Tryd.ntmps7
    go_wp2_with (first | (refine wpList_alloc_arr _ rfl 2 rfl _ rfl #[.int .i64 0, .bool false] zeroPv ?_; intro W2 p2 hp2 hq2 hR2 hG2))
    have hE := RSt19.start hp2 hR2 hG2
    clear hp2 hq2 hR2 hG2
    refine (c1 _).mono ?_
    rintro e w1 ⟨A, c, rfl, hc, _, hh, hb⟩
    have hE := hE.call hb
    clear hb hh
    go_wp2_with (first | (refine wpList_store_pv rfl rfl _ _ rfl p2 (by exact rfl) 0 false (by exact rfl) _ _ hE.row ?_; intro W9 hr9 hG9))
    have hF := hE.final hG9
    exact ret_pv 2 3 rfl p2 rfl _ _ hr9 _ rfl rfl (pol_ret HX.out hF)

end Go.Proofs.YtpopkeidpohdiaaDoor
