/-
Contract of Decode of package frame.
Contract of the reference's Decode.
-/
import Derived.Test.YtbcfjkfkkklgbaaB06
import Derived.Laws.CopyOwn
namespace Go.Proofs.Ytbcfjkfkkklgbaa
section
open Go.RowKit

theorem or_64 (a b : Nat) (ha : a < 256) (hb : b < 256) : bits .or .i64 (a : Int) ((b : Int) * 256) = ((a + 256 * b : Nat) : Int) := by
  have hp : (b : Int) * 256 = ((2 ^ 8 * b : Nat) : Int) := by omega
  rw [hp]
  show IntKind.i64.wrap ((BitVec.ofInt 64 (a : Int) ||| BitVec.ofInt 64 ((2 ^ 8 * b : Nat) : Int)).toNat : Int) = _
  rw [BitVec.toNat_or, ofInt_u64 a (by omega), ofInt_u64 _ (by omega), Nat.or_comm, ← Nat.two_pow_add_eq_or_of_lt (by omega : a < 2 ^ 8), IntKind.wrap_i64]
  omega
theorem src8 {w : World} {B n : Nat} {A : Option Addr} {xs : List Value} (h : Has w B A n xs) (h0 : 0 < xs.length) : ∃ ad, A = some ad ∧ ∀ j v, xs[j]? = some v → w.cell? (ad.add j) = some v := by
  obtain ⟨b, off, e, hb, hc⟩ := h.2 (by rw [← h.1]; exact h0)
  refine ⟨_, e, fun j v hj => ?_⟩
  have hjl := (List.getElem?_eq_some_iff.1 hj).1
  have hadd : (⟨b, off, none⟩ : Addr).add j = ⟨b, off + j, none⟩ := by unfold Addr.add; split <;> simp_all
  rw [hadd, hc j hjl, ← hj, List.getElem?_eq_getElem hjl]
theorem splice8 (z l : List Value) (h : z.length = l.length) : splice z 0 l = l := by
  simp [splice, List.drop_of_length_le (by omega : z.length ≤ 0 + l.length), ← h]
theorem has_row8 {w : World} {g n : Nat} {t : TypeId} {fr : Nat × Nat} {xs : List Value} (h : w.heap[g]? = some (.cells xs.toArray t fr)) (hn : xs.length = n) : Has w w.heap.size (some ⟨g, 0, none⟩) n xs :=
  ⟨hn, fun _ => ⟨g, 0, rfl, (Array.getElem?_eq_some_iff.1 h).1, fun j hj => by
    rw [cell_of_row _ g (0 + j) xs.toArray t fr h]
    simp⟩⟩
theorem sizeU8 : (Try.prog.info? 5).map (·.size) = some 1 := by kernel_rfl

/-- The block of a slice of bytes is a row of bytes, none older than B. -/
def Typ8 (B : Nat) (w : World) (A : Option Addr) (n : Nat) : Prop := 0 < n → ∃ b off cs fr, A = some ⟨b, off, none⟩ ∧ B ≤ b ∧ w.heap[b]? = some (.cells cs 5 fr)
theorem Typ8.mono {B B' : Nat} {w : World} {A : Option Addr} {n : Nat} (h : Typ8 B w A n) (hB : B' ≤ B) : Typ8 B' w A n := fun h0 => by
  obtain ⟨b, off, cs, fr, e, hl, hh⟩ := h h0
  exact ⟨b, off, cs, fr, e, Nat.le_trans hB hl, hh⟩
theorem Typ8.below {B : Nat} {w w' : World} {A : Option Addr} {n : Nat} (h : Typ8 B w A n) (hb : Below w.heap.size w w') : Typ8 B w' A n := fun h0 => by
  obtain ⟨b, off, cs, fr, e, hl, hh⟩ := h h0
  exact ⟨b, off, cs, fr, e, hl, (hb.block b (Array.getElem?_eq_some_iff.1 hh).1).trans hh⟩
theorem Typ8.of_own {w : World} {base n c : Nat} {A : Option Addr} {xs : List Value} (h : w.ownsRow base 5 1 (.slice A n c) n xs) : Typ8 base w A n := fun h0 => by
  rcases h.2 with ⟨_, h1⟩ | ⟨g, cap, cur, e, hb, hg, _⟩
  · omega
  · injection e with e _ _
    exact ⟨g, 0, cur, _, e, hb, hg⟩

/-- What Decode answers, and what is left in memory. -/
def DecP (w : World) (l : List UInt8) (e q : W32) (r : Ending) (w' : World) : Prop :=
  (∃ P c, r = .returned (.tuple #[.slice P (dpl l e q).length c, .int .i64 (dn l e q : Int), .int .i64 (derr l e q : Int)]) ∧ Has w' w'.heap.size P (dpl l e q).length ((dpl l e q).map bv) ∧ (P = none → c = 0) ∧ (dpl l e q).length ≤ c ∧ Typ8 w.heap.size w' P (dpl l e q).length) ∧ Below w.heap.size w w'
theorem DecP.no {w w' : World} {l : List UInt8} {e q : W32} (n : Nat) (h : Hid (derr l e q = n)) (hn : n ≠ 0) (hb : Below w.heap.size w w') : DecP w l e q (.returned (.tuple #[.slice none 0 0, .int .i64 0, .int .i64 (n : Int)])) w' := by
  have h := h.out
  have h0 : derr l e q ≠ 0 := by omega
  refine ⟨⟨none, 0, ?_, ?_, fun _ => rfl, ?_, ?_⟩, hb⟩
  · rw [dpl_no h0, dn_no h0, h]; rfl
  · rw [dpl_no h0]; exact Has.nil _ _ _
  · rw [dpl_no h0]; exact Nat.zero_le _
  · rw [dpl_no h0]; exact fun h => absurd h (Nat.lt_irrefl 0)
theorem DecP.yes {w w' : World} {l : List UInt8} {e q : W32} (n : Nat) (P : Option Addr) (c : Nat) (m : Int) (h : Hid (derr l e q = 0)) (hn : Hid (lenB l = n)) (hm : m = 14 + (n : Int)) (hP : P = none → c = 0) (hh : Has w' w'.heap.size P n (((l.drop 10).take n).map bv)) (hc : n ≤ c) (ht : Typ8 w.heap.size w' P n) (hb : Below w.heap.size w w') :
    DecP w l e q (.returned (.tuple #[.slice P n c, .int .i64 m, .int .i64 0])) w' := by
  have h := h.out
  have hn := hn.out
  have hl : (dpl l e q).length = n := by rw [dpl_yes h, hn]; simpa using hh.1
  refine ⟨⟨P, c, ?_, ?_, hP, by omega, by rw [hl]; exact ht⟩, hb⟩
  · rw [hl, dn_yes h, h, hn, hm]; simp
  · rw [hl, dpl_yes h, hn]; exact hh

theorem quiet_add {P : Program} {f : FuncId} {args : Array Value} {w : World} {a n : Nat} {v : Value}
    (h : Calls P f args (w.drewN (a + n)) fun e w' => e = .returned v ∧ ∃ m, w' = (w.drewN (a + n)).drewN m) :
    Calls P f args (w.drewN (a + n)) fun e w'' => e = .returned v ∧ ∃ m, w'' = w.drewN (a + m) :=
  h.mono fun _ _ ⟨he, m, hm⟩ => ⟨he, n + m, by rw [hm, World.drewN_drewN, Nat.add_assoc]⟩
theorem quiet_add_left {P : Program} {f : FuncId} {args : Array Value} {w : World} {a n : Nat} {v : Value}
    (h : Calls P f args (w.drewN (a + n)) fun e w' => e = .returned v ∧ w.drewN (a + n) = w') :
    Calls P f args (w.drewN (a + n)) fun e w'' => e = .returned v ∧ ∃ m, w'' = w.drewN (a + m) :=
  h.mono fun _ _ ⟨he, hm⟩ => ⟨he, n, hm.symm⟩

theorem below_dd (B : Nat) (w : World) (a b : Nat) : Below B w ((w.drewN a).drewN b) := below_drewN (below_drewN (Below.refl _ _) _) _
theorem below_ddd (B : Nat) (w : World) (a b c : Nat) : Below B w (((w.drewN a).drewN b).drewN c) := below_drewN (below_dd _ _ _ _) _
theorem below_dddd (B : Nat) (w : World) (a b c d : Nat) : Below B w ((((w.drewN a).drewN b).drewN c).drewN d) := below_drewN (below_ddd _ _ _ _ _) _

set_option maxRecDepth 20000 in
set_option maxHeartbeats 2000000 in
theorem decode_any (e q : W32) (A : Option Addr) (len cap B : Nat) (l : List UInt8) (w : World) (hA : Has w B A len (l.map bv)) (hlc : len ≤ cap) (hlen : len ≤ 1000000) (hB : B ≤ w.heap.size) :
    Calls Try.prog 88 #[.slice A len cap, .int .u32 (nv e), .int .u32 (nv q)] w (DecP w l e q) := by
  have hL : l.length = len := by simpa using hA.1
  by_cases h1 : len < 14
  · have HD : Hid (derr l e q = 5) := Lib.hid (derr_1 (by omega))
    have h1' : (len : Int) < 14 := by omega
    clear hL hA
    go_enter Try.func88, Try.ntmps88
    go_wp2
    go_ret3
    exact DecP.no 5 HD (by decide) (Below.refl _ _)
  · have h1' : ¬ (len : Int) < 14 := by omega
    have hl1 : ¬ l.length < 14 := by omega
    obtain ⟨b, off, rfl, _, _⟩ := hA.2 (by omega)
    have c0 : w.cell? ⟨b, off, none⟩ = some (.int .u8 ((l.getD 0 0).toNat : Int)) := cell_bt hA 0 (by omega)
    have c1 : w.cell? ⟨b, off + 1, none⟩ = some (.int .u8 ((l.getD 1 0).toNat : Int)) := cell_bt hA 1 (by omega)
    have k0 := byte_lt (l.getD 0 0)
    have k1 := byte_lt (l.getD 1 0)
    have ho := or_64 (l.getD 0 0).toNat (l.getD 1 0).toNat (l.getD 0 0).toNat_lt (l.getD 1 0).toNat_lt
    obtain ⟨n, hn⟩ : ∃ n, lenB l = n := ⟨_, rfl⟩
    rw [show ((l.getD 0 0).toNat + 256 * (l.getD 1 0).toNat : Nat) = n from hn] at ho
    have hnb : n < 65536 := by have := lenB_lt l; omega
    have HN := Lib.hid hn
    obtain ⟨y0, hy0⟩ : ∃ v : Int, v = ((l.getD 0 0).toNat : Int) := ⟨_, rfl⟩
    obtain ⟨y1, hy1⟩ : ∃ v : Int, v = ((l.getD 1 0).toNat : Int) := ⟨_, rfl⟩
    have g00 : 0 ≤ y0 := by omega
    have g10 : 0 ≤ y1 := by omega
    rw [← hy0] at c0 k0
    rw [← hy1] at c1 k1
    rw [← hy0, ← hy1] at ho
    clear hy0 hy1
    have hlen0 : (0 : Int) < (len : Int) := by omega
    have hlen1 : (1 : Int) < (len : Int) := by omega
    by_cases h2 : 1024 < n
    · have HD : Hid (derr l e q = 3) := Lib.hid (derr_2 hl1 (by omega))
      have h2' : (1024 : Int) < (n : Int) := by omega
      clear hL hA hn
      go_enter Try.func88, Try.ntmps88
      go_wp2
      go_quiet (fail)
      go_wp2
      go_ret3
      exact DecP.no 3 HD (by decide) (below_drewN (Below.refl _ _) _)
    · have h2' : ¬ (1024 : Int) < (n : Int) := by omega
      have hsz : ∀ v, Calls Try.prog 56 #[.int .i64 (n : Int)] v fun r w' => r = .returned (.int .i64 (14 + (n : Int))) ∧ v = w' := fun v => by
        have := frSize_any (n : Int) v
        rwa [szB_yes (by omega) (by omega)] at this
      by_cases h3 : len < 14 + n
      · have HD : Hid (derr l e q = 5) := Lib.hid (derr_3 hl1 (by omega) (by omega))
        have h3' : (len : Int) < 14 + (n : Int) := by omega
        clear hL hA hn
        go_enter Try.func88, Try.ntmps88
        go_wp2
        go_quiet (fail)
        go_wp2_with fail
        refine (hsz _).mono ?_
        rintro r w' ⟨rfl, rfl⟩
        go_wp2
        go_ret3
        exact DecP.no 5 HD (by decide) (below_drewN (Below.refl _ _) _)
      · have h3' : ¬ (len : Int) < 14 + (n : Int) := by omega
        obtain ⟨s, hs⟩ : ∃ s : Nat, s = 10 + n := ⟨_, rfl⟩
        have hs' : (10 : Int) + (n : Int) = (s : Int) := by omega
        have hs0 : (0 : Int) ≤ (s : Int) := by omega
        have hs1 : (s : Int) ≤ (len : Int) := by omega
        have hs2 : (s : Int) ≤ (cap : Int) := by omega
        have hs3 : s ≤ len := by omega
        have hs4 : s ≤ cap := by omega
        have hs5 : ¬ cap = s := by omega
        have hs6 : (10 : Int) ≤ (s : Int) := by omega
        have hs7 : 10 ≤ s := by omega
        have hs8 : s - 10 = n := by omega
        have hc2 : ¬ cap = 2 := by omega
        have hc6 : ¬ cap = 6 := by omega
        have hc10 : ¬ cap = 10 := by omega
        have hlc' : (len : Int) ≤ (cap : Int) := by omega
        have hnumS := fun v (hv : Has v B (some ⟨b, off, none⟩) len (l.map bv)) => number_any b (off + s) (len - s) (cap - s) B (l.drop s) v (hv.tail8 s hs3) (by omega)
        have hsumS := fun v (hv : Has v B (some ⟨b, off, none⟩) len (l.map bv)) => sum_any (some ⟨b, off, none⟩) s cap B (l.take s) v (hv.head8 s hs3) (by omega)
        have hnum2 := fun v (hv : Has v B (some ⟨b, off, none⟩) len (l.map bv)) => number_any b (off + 2) (len - 2) (cap - 2) B (l.drop 2) v (hv.tail8 2 (by omega)) (by omega)
        have hnum6 := fun v (hv : Has v B (some ⟨b, off, none⟩) len (l.map bv)) => number_any b (off + 6) (len - 6) (cap - 6) B (l.drop 6) v (hv.tail8 6 (by omega)) (by omega)
        have d4 := fun h4 => derr_4 (e := e) (q := q) hl1 (show ¬ 1024 < lenB l by omega) (show ¬ l.length < 14 + lenB l by omega) h4
        have d5 := fun h4 h5 => derr_5 (e := e) (q := q) hl1 (show ¬ 1024 < lenB l by omega) (show ¬ l.length < 14 + lenB l by omega) h4 h5
        have d6 := fun h4 h5 h6 => derr_6 (e := e) (q := q) hl1 (show ¬ 1024 < lenB l by omega) (show ¬ l.length < 14 + lenB l by omega) h4 h5 h6
        rw [show 10 + lenB l = s by omega] at d4 d5 d6
        have D4 := Lib.hid d4
        have D5 := Lib.hid d5
        have D6 := Lib.hid d6
        have HA := Lib.hid hA
        have HLL := Lib.hid hL
        clear hL hA hn d4 d5 d6 hs
        obtain ⟨wS, hwS⟩ : ∃ x, x = wordB (l.drop s) := ⟨_, rfl⟩
        obtain ⟨cS, hcS⟩ : ∃ x, x = crcSum (l.take s) := ⟨_, rfl⟩
        rw [← hwS] at hnumS D4 D5 D6
        rw [← hcS] at hsumS D4 D5 D6
        clear hwS hcS
        by_cases h4 : wS = cS
        · subst h4
          obtain ⟨w2, hw2⟩ : ∃ x, x = wordB (l.drop 2) := ⟨_, rfl⟩
          obtain ⟨w6, hw6⟩ : ∃ x, x = wordB (l.drop 6) := ⟨_, rfl⟩
          rw [← hw2] at hnum2 D5 D6
          rw [← hw6] at hnum6 D5 D6
          clear hw2 hw6
          obtain ⟨x, hx⟩ : ∃ x, x = nv wS := ⟨_, rfl⟩
          rw [← hx] at hnumS hsumS
          clear hx D4
          by_cases h5 : w2 = e
          · subst h5
            by_cases h6 : w6 = q
            · subst h6
              have HD : Hid (derr l w2 w6 = 0) := Lib.hid (D6.out rfl rfl rfl)
              have HCL : Hid ((((l.drop 10).take n).map bv).length = n) := Lib.hid (by have := HLL.out; simp; omega)
              obtain ⟨x2, hx2⟩ : ∃ x, x = nv w2 := ⟨_, rfl⟩
              obtain ⟨x6, hx6⟩ : ∃ x, x = nv w6 := ⟨_, rfl⟩
              rw [← hx2] at hnum2 ⊢
              rw [← hx6] at hnum6 ⊢
              clear hx2 hx6 D5 D6
              go_enter Try.func88, Try.ntmps88
              go_wp2
              go_quiet (fail)
              go_wp2_with fail
              refine (hsz _).mono ?_
              rintro r w' ⟨rfl, rfl⟩
              go_wp2
              go_quiet (first | (go_at_call 100; exact quiet_add (hnumS _ (HA.out.drewN _))) | (go_at_call 90; exact quiet_add_left (hsumS _ (HA.out.drewN _))))
              go_wp2_with fail
              refine (hnum2 _ (HA.out.drewN _)).mono ?_
              rintro r w' ⟨rfl, m2, rfl⟩
              go_wp2_with fail
              first | refine (hnum6 _ (HA.out.drewN _)).mono ?_ | refine (hnum6 _ ((HA.out.drewN _).drewN _)).mono ?_
              rintro r w' ⟨rfl, m6, rfl⟩
              go_wp2_with (first
                | (at_make; refine wpList_make_bytes _ rfl _ _ (by exact rfl) n (by exact rfl) (by exact rfl) (by omega) ?_; intro w1 g hg0 hg1 hrow hgr; have hb1 : Below w.heap.size w w1 := Below.grown (by first | exact below_drewN (Below.refl _ _) _ | exact below_dd _ _ _ _ | exact below_ddd _ _ _ _ _ | exact below_dddd _ _ _ _ _ _) hgr (Nat.le_refl _) (fun k e => by cases e))
                | (refine wpList_copy_splice rfl _ _ _ _ (by exact rfl) 5 tyBs sizeU8 _ _ _ _ _ _ (by exact rfl) (by exact rfl) g 0 (zeros n).toList 5 (by simpa [Row] using hrow) (((l.drop 10).take n).map bv) (by first | (rw [HCL.out]; exact (Nat.min_self _).symm) | (rw [hs8, HCL.out]; exact (Nat.min_self _).symm)) (fun h0 => ⟨by exact rfl, src8 ((HA.out.sub8 10 n (by omega)).below' hb1 hB) h0⟩) (by rw [HCL.out]; simp [zeros]) (one_bytes _) w.heap.size w hb1 hg0 ?_; intro w2' hg2 hb2))
              go_ret3
              refine DecP.yes n (some ⟨g, 0, none⟩) n _ HD HN rfl (fun e => by cases e) ?_ (Nat.le_refl _) (fun _ => ⟨g, 0, _, _, rfl, hg0, hg2.out⟩) hb2
              have hg3 := hg2.out
              rw [splice8 _ _ (by rw [HCL.out]; simp [zeros])] at hg3
              exact has_row8 hg3 HCL.out
            · have HD : Hid (derr l w2 q = 8) := Lib.hid (D5.out rfl (.inr h6))
              have h6' : ¬ nv w6 = nv q := fun h => h6 (nv_inj h)
              have h6b : (nv w6 != nv q) = true := by simp [h6']
              clear D5 D6 h6
              go_enter Try.func88, Try.ntmps88
              go_wp2
              go_quiet (fail)
              go_wp2_with fail
              refine (hsz _).mono ?_
              rintro r w' ⟨rfl, rfl⟩
              go_wp2
              go_quiet (first | (go_at_call 100; exact quiet_add (hnumS _ (HA.out.drewN _))) | (go_at_call 90; exact quiet_add_left (hsumS _ (HA.out.drewN _))))
              go_wp2_with fail
              refine (hnum2 _ (HA.out.drewN _)).mono ?_
              rintro r w' ⟨rfl, m2, rfl⟩
              go_wp2_with fail
              first | refine (hnum6 _ (HA.out.drewN _)).mono ?_ | refine (hnum6 _ ((HA.out.drewN _).drewN _)).mono ?_
              rintro r w' ⟨rfl, m6, rfl⟩
              go_wp2
              go_ret3
              exact DecP.no 8 HD (by decide) (by first | exact below_drewN (Below.refl _ _) _ | exact below_dd _ _ _ _ | exact below_ddd _ _ _ _ _ | exact below_dddd _ _ _ _ _ _)
          · have HD : Hid (derr l e q = 8) := Lib.hid (D5.out rfl (.inl h5))
            have h5' : ¬ nv w2 = nv e := fun h => h5 (nv_inj h)
            have h5b : (nv w2 != nv e) = true := by simp [h5']
            clear D5 D6 h5
            go_enter Try.func88, Try.ntmps88
            go_wp2
            go_quiet (fail)
            go_wp2_with fail
            refine (hsz _).mono ?_
            rintro r w' ⟨rfl, rfl⟩
            go_wp2
            go_quiet (first | (go_at_call 100; exact quiet_add (hnumS _ (HA.out.drewN _))) | (go_at_call 90; exact quiet_add_left (hsumS _ (HA.out.drewN _))))
            go_wp2_with fail
            refine (hnum2 _ (HA.out.drewN _)).mono ?_
            rintro r w' ⟨rfl, m2, rfl⟩
            go_wp2
            go_ret3
            exact DecP.no 8 HD (by decide) (by first | exact below_drewN (Below.refl _ _) _ | exact below_dd _ _ _ _ | exact below_ddd _ _ _ _ _ | exact below_dddd _ _ _ _ _ _)
        · have HD : Hid (derr l e q = 7) := Lib.hid (D4.out h4)
          have h4' : ¬ nv wS = nv cS := fun h => h4 (nv_inj h)
          clear D4 D5 D6 h4
          obtain ⟨x, hx⟩ : ∃ x, x = nv wS := ⟨_, rfl⟩
          obtain ⟨y, hy⟩ : ∃ y, y = nv cS := ⟨_, rfl⟩
          rw [← hx] at hnumS h4'
          rw [← hy] at hsumS h4'
          have h4b : (x != y) = true := by simp [h4']
          clear hx hy
          go_enter Try.func88, Try.ntmps88
          go_wp2
          go_quiet (fail)
          go_wp2_with fail
          refine (hsz _).mono ?_
          rintro r w' ⟨rfl, rfl⟩
          go_wp2
          go_quiet (first | (go_at_call 100; exact quiet_add (hnumS _ (HA.out.drewN _))) | (go_at_call 90; exact quiet_add_left (hsumS _ (HA.out.drewN _))))
          go_wp2
          go_ret3
          exact DecP.no 7 HD (by decide) (by first | exact below_drewN (Below.refl _ _) _ | exact below_dd _ _ _ _ | exact below_ddd _ _ _ _ _ | exact below_dddd _ _ _ _ _ _)
end

section
open Go.RowKit

theorem take4 (l : List UInt8) (h : 4 ≤ l.length) : l.take 4 = [l.getD 0 0, l.getD 1 0, l.getD 2 0, l.getD 3 0] := by
  match l, h with
  | a :: b :: c :: d :: r, _ => rfl
theorem refWord {w : World} {B len b off : Nat} {l : List UInt8} (hA : Has w B (some ⟨b, off, none⟩) len (l.map bv)) (s cap : Nat) (hs : s + 4 ≤ len) :
    Calls Try.prog 103 #[.slice (some ⟨b, off + s, none⟩) 4 cap] w fun e w' => e = .returned (.tuple #[.int .u32 (nv (wordB (l.drop s))), .int .i64 0]) ∧ Below w.heap.size w w' := by
  have hl : l.length = len := by simpa using hA.1
  have h := hA.sub8 s 4 hs
  rw [take4 (l.drop s) (by simp; omega)] at h
  exact decodeFixed_any _ cap B _ _ _ _ w h

set_option maxRecDepth 20000 in
set_option maxHeartbeats 2000000 in
theorem refDecode_any (e q : W32) (A : Option Addr) (len cap B : Nat) (l : List UInt8) (w : World) (hA : Has w B A len (l.map bv)) (hlc : len ≤ cap) (hlen : len ≤ 1000000) (hB : B ≤ w.heap.size) :
    Calls Try.prog 93 #[.slice A len cap, .int .u32 (nv e), .int .u32 (nv q)] w (DecP w l e q) := by
  have hL : l.length = len := by simpa using hA.1
  by_cases h1 : len < 14
  · have HD : Hid (derr l e q = 5) := Lib.hid (derr_1 (by omega))
    have h1' : (len : Int) < 14 := by omega
    clear hL hA
    go_enter Try.func93, Try.ntmps93
    go_wp2
    go_ret3
    exact DecP.no 5 HD (by decide) (Below.refl _ _)
  · have h1' : ¬ (len : Int) < 14 := by omega
    have hl1 : ¬ l.length < 14 := by omega
    obtain ⟨b, off, rfl, _, _⟩ := hA.2 (by omega)
    have c0 : w.cell? ⟨b, off, none⟩ = some (.int .u8 ((l.getD 0 0).toNat : Int)) := cell_bt hA 0 (by omega)
    have c1 : w.cell? ⟨b, off + 1, none⟩ = some (.int .u8 ((l.getD 1 0).toNat : Int)) := cell_bt hA 1 (by omega)
    have k0 := byte_lt (l.getD 0 0)
    have k1 := byte_lt (l.getD 1 0)
    obtain ⟨n, hn⟩ : ∃ n, lenB l = n := ⟨_, rfl⟩
    have ho : ((l.getD 0 0).toNat : Int) + 256 * ((l.getD 1 0).toNat : Int) = (n : Int) := by rw [← hn]; unfold lenB; omega
    have hnb : n < 65536 := by have := lenB_lt l; omega
    have HN := Lib.hid hn
    obtain ⟨y0, hy0⟩ : ∃ v : Int, v = ((l.getD 0 0).toNat : Int) := ⟨_, rfl⟩
    obtain ⟨y1, hy1⟩ : ∃ v : Int, v = ((l.getD 1 0).toNat : Int) := ⟨_, rfl⟩
    have g00 : 0 ≤ y0 := by omega
    have g10 : 0 ≤ y1 := by omega
    rw [← hy0] at c0 k0
    rw [← hy1] at c1 k1
    rw [← hy0, ← hy1] at ho
    clear hy0 hy1
    have hlen0 : (0 : Int) < (len : Int) := by omega
    have hlen1 : (1 : Int) < (len : Int) := by omega
    by_cases h2 : 1024 < n
    · have HD : Hid (derr l e q = 3) := Lib.hid (derr_2 hl1 (by omega))
      have h2' : (1024 : Int) < (n : Int) := by omega
      clear hL hA hn
      go_enter Try.func93, Try.ntmps93
      go_wp2
      go_quiet (fail)
      go_wp2
      go_ret3
      exact DecP.no 3 HD (by decide) (below_drewN (Below.refl _ _) _)
    · have h2' : ¬ (1024 : Int) < (n : Int) := by omega
      by_cases h3 : len < 14 + n
      · have HD : Hid (derr l e q = 5) := Lib.hid (derr_3 hl1 (by omega) (by omega))
        have h3' : (len : Int) < 14 + (n : Int) := by omega
        clear hL hA hn
        go_enter Try.func93, Try.ntmps93
        go_wp2
        go_quiet (fail)
        go_wp2
        go_ret3
        exact DecP.no 5 HD (by decide) (below_drewN (Below.refl _ _) _)
      · have h3' : ¬ (len : Int) < 14 + (n : Int) := by omega
        obtain ⟨s, hs⟩ : ∃ s : Nat, s = 10 + n := ⟨_, rfl⟩
        obtain ⟨s4, hs4⟩ : ∃ s : Nat, s = 14 + n := ⟨_, rfl⟩
        have hs' : (10 : Int) + (n : Int) = (s : Int) := by omega
        have hs4' : (s : Int) + 4 = (s4 : Int) := by omega
        have HS4 : Hid ((s4 : Int) = 14 + (n : Int)) := Lib.hid (by omega)
        have hs1 : s ≤ len := by omega
        have hs2 : s ≤ cap := by omega
        have hs3 : s4 ≤ cap := by omega
        have hs5 : ¬ cap = s := by omega
        have hs6 : s ≤ s4 := by omega
        have hs7 : 10 ≤ s := by omega
        have hs8 : s - 10 = n := by omega
        have hs9 : s4 - s = 4 := by omega
        have hs10 : s4 ≤ len := by omega
        have hc2 : ¬ cap = 2 := by omega
        have hc6 : ¬ cap = 6 := by omega
        have hc10 : ¬ cap = 10 := by omega
        have hwS := fun v (hv : Has v B (some ⟨b, off, none⟩) len (l.map bv)) => refWord hv s (cap - s) (by omega)
        have hsumS := fun v (hv : Has v B (some ⟨b, off, none⟩) len (l.map bv)) => refSum_any (some ⟨b, off, none⟩) s cap B (l.take s) v (hv.head8 s hs1) (by omega)
        have hw2 := fun v (hv : Has v B (some ⟨b, off, none⟩) len (l.map bv)) => refWord hv 2 (cap - 2) (by omega)
        have hw6 := fun v (hv : Has v B (some ⟨b, off, none⟩) len (l.map bv)) => refWord hv 6 (cap - 6) (by omega)
        have d4 := fun h4 => derr_4 (e := e) (q := q) hl1 (show ¬ 1024 < lenB l by omega) (show ¬ l.length < 14 + lenB l by omega) h4
        have d5 := fun h4 h5 => derr_5 (e := e) (q := q) hl1 (show ¬ 1024 < lenB l by omega) (show ¬ l.length < 14 + lenB l by omega) h4 h5
        have d6 := fun h4 h5 h6 => derr_6 (e := e) (q := q) hl1 (show ¬ 1024 < lenB l by omega) (show ¬ l.length < 14 + lenB l by omega) h4 h5 h6
        rw [show 10 + lenB l = s by omega] at d4 d5 d6
        have D4 := Lib.hid d4
        have D5 := Lib.hid d5
        have D6 := Lib.hid d6
        have HA := Lib.hid hA
        have HLL := Lib.hid hL
        clear hL hA hn d4 d5 d6 hs hs4
        obtain ⟨wS, hwSe⟩ : ∃ x, x = wordB (l.drop s) := ⟨_, rfl⟩
        obtain ⟨cS, hcSe⟩ : ∃ x, x = crcSum (l.take s) := ⟨_, rfl⟩
        rw [← hwSe] at hwS D4 D5 D6
        rw [← hcSe] at hsumS D4 D5 D6
        clear hwSe hcSe
        by_cases h4 : wS = cS
        · subst h4
          obtain ⟨w2, hw2e⟩ : ∃ x, x = wordB (l.drop 2) := ⟨_, rfl⟩
          obtain ⟨w6, hw6e⟩ : ∃ x, x = wordB (l.drop 6) := ⟨_, rfl⟩
          rw [← hw2e] at hw2 D5 D6
          rw [← hw6e] at hw6 D5 D6
          clear hw2e hw6e
          obtain ⟨x, hx⟩ : ∃ x, x = nv wS := ⟨_, rfl⟩
          rw [← hx] at hwS hsumS
          clear hx D4
          by_cases h5 : w2 = e
          · subst h5
            by_cases h6 : w6 = q
            · subst h6
              have HD : Hid (derr l w2 w6 = 0) := Lib.hid (D6.out rfl rfl rfl)
              have HCL : Hid ((((l.drop 10).take n).map bv).length = n) := Lib.hid (by have := HLL.out; simp; omega)
              obtain ⟨x2, hx2⟩ : ∃ x, x = nv w2 := ⟨_, rfl⟩
              obtain ⟨x6, hx6⟩ : ∃ x, x = nv w6 := ⟨_, rfl⟩
              rw [← hx2] at hw2 ⊢
              rw [← hx6] at hw6 ⊢
              obtain ⟨i5, hi5, hz0, hz1, hz2⟩ := info_parts infoU8
              clear hx2 hx6 D5 D6
              go_enter Try.func93, Try.ntmps93
              go_wp2
              go_quiet (fail)
              go_wp2_with fail
              refine (hwS _ (HA.out.drewN _)).mono ?_
              rintro r w1 ⟨rfl, hb1'⟩
              have hb1 : Below w.heap.size w w1 := (below_drewN (Below.refl w.heap.size w) _).trans hb1'
              clear hb1'
              go_wp2_with fail
              refine (hsumS _ (HA.out.below' hb1 hB)).mono ?_
              rintro r w' ⟨rfl, rfl⟩
              go_wp2_with fail
              refine (hw2 _ (HA.out.below' hb1 hB)).mono ?_
              rintro r w2' ⟨rfl, hb2'⟩
              have hb2 := hb1.trans (hb2'.mono hb1.size)
              clear hb2'
              go_wp2_with fail
              refine (hw6 _ (HA.out.below' hb2 hB)).mono ?_
              rintro r w3 ⟨rfl, hb3'⟩
              have hb3 := hb2.trans (hb3'.mono hb2.size)
              clear hb3'
              go_wp2_with (at_builtin; refine wpList_app_has _ rfl _ _ 34 rfl w3.heap.size 5 i5 (.int .u8 0) 1 tyBs hi5 hz0 hz1 hz2 rfl _ _ _ (by exact rfl) (own_empty w3 5) _ n (cap - 10) _ (((l.drop 10).take n).map bv) (by first | exact rfl | (rw [← hs8]; exact rfl)) (by intro e; cases e) ((HA.out.below' hb3 hB).sub8 10 n (by omega) |>.alloc (Nat.le_trans hB hb3.size) _) (one_bytes _) (by unfold maxLen; omega) (by omega) ((Below.refl _ _).alloc (Nat.le_refl _) _) (Nat.le_refl _) ?_; intro v4 w4 hown4 hb4 _; rw [List.nil_append, Nat.zero_add] at hown4; obtain ⟨A4, c4, rfl, hh4, hc4⟩ := Has.of_own hown4)
              go_ret3
              exact DecP.yes n A4 c4 _ HD HN HS4.out (of_own_none hown4) hh4 hc4 ((Typ8.of_own hown4).mono hb3.size) (hb3.trans (hb4.mono hb3.size))
            · have HD : Hid (derr l w2 q = 8) := Lib.hid (D5.out rfl (.inr h6))
              have h6' : ¬ nv w6 = nv q := fun h => h6 (nv_inj h)
              have h6b : (nv w6 != nv q) = true := by simp [h6']
              clear D5 D6 h6
              go_enter Try.func93, Try.ntmps93
              go_wp2
              go_quiet (fail)
              go_wp2_with fail
              refine (hwS _ (HA.out.drewN _)).mono ?_
              rintro r w1 ⟨rfl, hb1'⟩
              have hb1 : Below w.heap.size w w1 := (below_drewN (Below.refl w.heap.size w) _).trans hb1'
              clear hb1'
              go_wp2_with fail
              refine (hsumS _ (HA.out.below' hb1 hB)).mono ?_
              rintro r w' ⟨rfl, rfl⟩
              go_wp2_with fail
              refine (hw2 _ (HA.out.below' hb1 hB)).mono ?_
              rintro r w2' ⟨rfl, hb2'⟩
              have hb2 := hb1.trans (hb2'.mono hb1.size)
              clear hb2'
              go_wp2_with fail
              refine (hw6 _ (HA.out.below' hb2 hB)).mono ?_
              rintro r w3 ⟨rfl, hb3'⟩
              have hb3 := hb2.trans (hb3'.mono hb2.size)
              clear hb3'
              go_wp2
              go_ret3
              exact DecP.no 8 HD (by decide) hb3
          · have HD : Hid (derr l e q = 8) := Lib.hid (D5.out rfl (.inl h5))
            have h5' : ¬ nv w2 = nv e := fun h => h5 (nv_inj h)
            have h5b : (nv w2 != nv e) = true := by simp [h5']
            clear D5 D6 h5
            go_enter Try.func93, Try.ntmps93
            go_wp2
            go_quiet (fail)
            go_wp2_with fail
            refine (hwS _ (HA.out.drewN _)).mono ?_
            rintro r w1 ⟨rfl, hb1'⟩
            have hb1 : Below w.heap.size w w1 := (below_drewN (Below.refl w.heap.size w) _).trans hb1'
            clear hb1'
            go_wp2_with fail
            refine (hsumS _ (HA.out.below' hb1 hB)).mono ?_
            rintro r w' ⟨rfl, rfl⟩
            go_wp2_with fail
            refine (hw2 _ (HA.out.below' hb1 hB)).mono ?_
            rintro r w2' ⟨rfl, hb2'⟩
            have hb2 := hb1.trans (hb2'.mono hb1.size)
            clear hb2'
            go_wp2_with fail
            refine (hw6 _ (HA.out.below' hb2 hB)).mono ?_
            rintro r w3 ⟨rfl, hb3'⟩
            have hb3 := hb2.trans (hb3'.mono hb2.size)
            clear hb3'
            go_wp2
            go_ret3
            exact DecP.no 8 HD (by decide) hb3
        · have HD : Hid (derr l e q = 7) := Lib.hid (D4.out h4)
          have h4' : ¬ nv wS = nv cS := fun h => h4 (nv_inj h)
          clear D4 D5 D6 h4
          obtain ⟨x, hx⟩ : ∃ x, x = nv wS := ⟨_, rfl⟩
          obtain ⟨y, hy⟩ : ∃ y, y = nv cS := ⟨_, rfl⟩
          rw [← hx] at hwS h4'
          rw [← hy] at hsumS h4'
          have h4b : (x != y) = true := by simp [h4']
          clear hx hy
          go_enter Try.func93, Try.ntmps93
          go_wp2
          go_quiet (fail)
          go_wp2_with fail
          refine (hwS _ (HA.out.drewN _)).mono ?_
          rintro r w1 ⟨rfl, hb1'⟩
          have hb1 : Below w.heap.size w w1 := (below_drewN (Below.refl w.heap.size w) _).trans hb1'
          clear hb1'
          go_wp2_with fail
          refine (hsumS _ (HA.out.below' hb1 hB)).mono ?_
          rintro r w' ⟨rfl, rfl⟩
          go_wp2
          go_ret3
          exact DecP.no 7 HD (by decide) hb1
end

end Go.Proofs.Ytbcfjkfkkklgbaa
