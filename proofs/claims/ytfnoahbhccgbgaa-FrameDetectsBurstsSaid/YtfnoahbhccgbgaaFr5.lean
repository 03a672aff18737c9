/-
  Contracts of Scan, of package frame and of its reference; lists of slices of bytes in memory.
-/
import Derived.Test.YtfnoahbhccgbgaaFr2
import Derived.Test.YtfnoahbhccgbgaaFr4
import Derived.Deep.LoopGhost
import Derived.WalkMore
namespace Go.Proofs.Ytfnoahbhccgbgaa
open Go.RowKit

theorem tyBss : Try.prog.underlying 35 = some (.slice 23) := by kernel_rfl
theorem infoBs : (Try.prog.info? 23).map (fun i => (i.zero, i.size, i.bytes)) = some (some (.slice none 0 0), 1, 24) := by kernel_rfl

/-- A value that is a slice of these bytes. -/
def Slc (w : World) (v : Value) (p : List UInt8) : Prop := ∃ A c, v = .slice A p.length c ∧ (A = none → c = 0) ∧ p.length ≤ c ∧ Has w w.heap.size A p.length (p.map bv) ∧ Typ8 w A p.length
def Many (w : World) (vs : List Value) (ps : List (List UInt8)) : Prop := vs.length = ps.length ∧ ∀ (i : Nat) (v : Value) (p : List UInt8), vs[i]? = some v → ps[i]? = some p → Slc w v p
theorem Slc.below {w w' : World} {v : Value} {p : List UInt8} (h : Slc w v p) (hb : Below w.heap.size w w') : Slc w' v p := by
  obtain ⟨A, c, e, h1, h2, h3, h4⟩ := h
  exact ⟨A, c, e, h1, h2, (h3.below hb).more hb.size, h4.below hb⟩
theorem Many.below {w w' : World} {vs : List Value} {ps : List (List UInt8)} (h : Many w vs ps) (hb : Below w.heap.size w w') : Many w' vs ps := ⟨h.1, fun i v p h1 h2 => (h.2 i v p h1 h2).below hb⟩
theorem Many.nil (w : World) : Many w [] [] := ⟨rfl, fun i v p h => by simp at h⟩
theorem Many.snoc {w : World} {vs : List Value} {ps : List (List UInt8)} (h : Many w vs ps) {v : Value} {p : List UInt8} (hv : Slc w v p) : Many w (vs ++ [v]) (ps ++ [p]) := by
  refine ⟨by simp [h.1], fun i v' p' h1 h2 => ?_⟩
  by_cases hi : i < vs.length
  · rw [List.getElem?_append_left hi] at h1
    rw [List.getElem?_append_left (by rw [← h.1]; exact hi)] at h2
    exact h.2 i v' p' h1 h2
  · rw [List.getElem?_append_right (by omega)] at h1
    rw [List.getElem?_append_right (by rw [← h.1]; omega), ← h.1] at h2
    match hj : i - vs.length, h1, h2 with
    | 0, h1, h2 =>
      simp at h1 h2
      subst h1 h2
      exact hv
    | j + 1, h1, _ => simp at h1
/-- A row of slices grew: the slices of bytes stay. -/
theorem Slc.grown {w w' : World} {base m : Nat} {o v : Value} {xs : List Value} {p : List UInt8} (h : Slc w v p) (hown : w.ownsRow base 23 1 o m xs) (hg : w.grownBy w' o.ownBlock) : Slc w' v p := by
  obtain ⟨A, c, e, h1, h2, h3, h4⟩ := h
  have hne : ∀ (b : Nat) (cs : Array Value) (fr : Nat × Nat), w.heap[b]? = some (.cells cs 5 fr) → w'.heap[b]? = w.heap[b]? := by
    intro b cs fr hb
    refine hg.block b (Array.getElem?_eq_some_iff.1 hb).1 ?_
    rcases hown.2 with ⟨rfl, _⟩ | ⟨g, cap, cur, rfl, _, hgg, _⟩
    · simp [Value.ownBlock]
    · intro he
      simp [Value.ownBlock] at he
      subst he
      rw [hgg] at hb
      injection hb with hb
      injection hb with _ hb _
      exact absurd hb (by decide)
  refine ⟨A, c, e, h1, h2, ⟨h3.1, fun h0 => ?_⟩, fun h0 => ?_⟩
  · obtain ⟨b, off, e1, hb, hc⟩ := h3.2 h0
    obtain ⟨b', off', cs, fr, e2, hh⟩ := h4 h0
    rw [e1] at e2
    injection e2 with e2
    injection e2 with e2 e3 _
    subst e2 e3
    exact ⟨b, off, e1, Nat.lt_of_lt_of_le hb hg.size, fun j hj => (World.cell?_of_block (hne b cs fr hh)).trans (hc j hj)⟩
  · obtain ⟨b', off', cs, fr, e2, hh⟩ := h4 h0
    exact ⟨b', off', cs, fr, e2, (hne b' cs fr hh).trans hh⟩
theorem Many.grown {w w' : World} {base m : Nat} {o : Value} {xs vs : List Value} {ps : List (List UInt8)} (h : Many w vs ps) (hown : w.ownsRow base 23 1 o m xs) (hg : w.grownBy w' o.ownBlock) : Many w' vs ps :=
  ⟨h.1, fun i v p h1 h2 => (h.2 i v p h1 h2).grown hown hg⟩

/-- What Scan answers, and what is left in memory. -/
def ScanP (w : World) (l : List UInt8) (e : W32) (r : Ending) (w' : World) : Prop :=
  (∃ v vs, r = .returned (.tuple #[v, .int .i64 ((scanB (l.length + 1) l e 0).2 : Int)]) ∧ w'.ownsRow w.heap.size 23 1 v (scanB (l.length + 1) l e 0).1.length vs ∧ Many w' vs (scanB (l.length + 1) l e 0).1) ∧ Below w.heap.size w w'

/-- How far a scan has come: f rounds at most are to come. -/
def At (l : List UInt8) (e : W32) (f n : Nat) (ps : List (List UInt8)) : Prop :=
  n ≤ l.length ∧ 14 * ps.length ≤ n ∧ l.length < n + f ∧ scanB (l.length + 1) l e 0 = (ps ++ (scanB f (l.drop n) e ps.length).1, n + (scanB f (l.drop n) e ps.length).2)
theorem At.start (l : List UInt8) (e : W32) : At l e (l.length + 1) 0 [] := ⟨Nat.zero_le _, by simp, by omega, by simp⟩
theorem At.next {l : List UInt8} {e : W32} {f n : Nat} {ps : List (List UInt8)} (h : At l e f n ps) (hd : derr (l.drop n) e (sq ps.length) = 0) :
    ∃ g, f = g + 1 ∧ At l e g (n + dn (l.drop n) e (sq ps.length)) (ps ++ [dpl (l.drop n) e (sq ps.length)]) := by
  obtain ⟨h1, h2, h3, h4⟩ := h
  have hf := dn_fit hd
  rw [List.length_drop] at hf
  match f, h3, h4 with
  | 0, h3, _ => omega
  | g + 1, h3, h4 =>
    refine ⟨g, rfl, by omega, by simp; omega, by omega, ?_⟩
    rw [h4, scanB_yes hd, List.drop_drop]
    simp [Nat.add_assoc]
theorem At.stop {l : List UInt8} {e : W32} {f n : Nat} {ps : List (List UInt8)} (h : At l e f n ps) (hd : derr (l.drop n) e (sq ps.length) ≠ 0) : scanB (l.length + 1) l e 0 = (ps, n) := by
  rw [h.2.2.2, scanB_no hd]
  simp
theorem sq_nv (k : Nat) (hk : k < 4294967296) : nv (sq k) = (k : Int) := by
  have h : ((sq k).toNat : Int) = (k : Int) := by simp [sq]; omega
  rw [← h]
  unfold nv
  rfl
theorem Has.from8 {w : World} {B n : Nat} {A : Option Addr} {l : List UInt8} (h : Has w B A n (l.map bv)) : l.length = n := by simpa using h.1

theorem DecP.got {w w' : World} {l : List UInt8} {e q : W32} {r : Ending} (h : DecP w l e q r w') (hd : derr l e q = 0) : ∃ v, r = .returned (.tuple #[v, .int .i64 (dn l e q : Int), .int .i64 0]) ∧ v.oneCell' = true ∧ Slc w' v (dpl l e q) ∧ Below w.heap.size w w' := by
  obtain ⟨⟨P, c, rfl, h1, h2, h3, h4⟩, hb⟩ := h
  rw [hd]
  exact ⟨_, rfl, rfl, ⟨P, c, rfl, h2, h3, h1, h4⟩, hb⟩
theorem DecP.bad {w w' : World} {l : List UInt8} {e q : W32} {r : Ending} (h : DecP w l e q r w') (hd : derr l e q ≠ 0) : ∃ (v : Value) (x y : Int), r = .returned (.tuple #[v, .int .i64 y, .int .i64 x]) ∧ x ≠ 0 ∧ Below w.heap.size w w' := by
  obtain ⟨⟨P, c, rfl, h1, h2, h3, h4⟩, hb⟩ := h
  exact ⟨_, _, _, rfl, by omega, hb⟩

set_option maxHeartbeats 2000000 in
theorem scan_any (e : W32) (b off len cap B : Nat) (l : List UInt8) (w : World) (hA : Has w B (some ⟨b, off, none⟩) len (l.map bv)) (hlc : len ≤ cap) (hlen : len ≤ 1000000) (hB : B ≤ w.heap.size) :
    Calls Try.prog 17 #[.slice (some ⟨b, off, none⟩) len cap, .int .u32 (nv e)] w (ScanP w l e) := by
  obtain ⟨i9, hi9, hz0, hz1, hz2⟩ := info_parts infoBs
  have HL := Lib.hid hA.from8
  have HA := Lib.hid hA
  clear hA
  go_enter Try.func17, Try.ntmps17
  go_wp2
  go_step3
  go_wp2
  go_step3
  go_wp2
  go_loopg [6, 7, 8] (l.length + 1) (fun g v x y wr => ∃ (n : Nat) (ps : List (List UInt8)) (vs : List Value), n ≤ len ∧ ps.length ≤ 1000000 ∧ x = .int .i64 n ∧ y = .int .u32 ps.length ∧ Hid (At l e g n ps) ∧ Hid (Many wr vs ps) ∧
      wr.ownsRow w.heap.size 23 1 v ps.length vs ∧ Below w.heap.size w wr)
  case atStart => exact ⟨0, [], [], Nat.zero_le _, by simp, rfl, rfl, At.start l e, Many.nil _, World.ownsRow_nil _ _ _ _, Below.refl _ _⟩
  case round =>
    obtain ⟨n, ps, vs, hn, hps, rfl, rfl, HAT, HM, hown, hb⟩ := hrel
    obtain ⟨k, hk⟩ : ∃ k, k = ps.length := ⟨_, rfl⟩
    have HK := Lib.hid hk
    rw [← hk] at hown hps ⊢
    clear hk
    have hn2 : n ≤ cap := by omega
    have HBw := Lib.hid hb
    by_cases hcn : cap = n
    · obtain rfl : n = len := by omega
      subst hcn
      have hz : cap - cap = 0 := Nat.sub_self cap
      have hnil : l.drop cap = [] := List.drop_of_length_le (by rw [HL.out]; omega)
      have hd : derr (l.drop cap) e (sq k) ≠ 0 := by rw [hnil, derr_1 (by decide)]; decide
      have hdec := decode_any e (sq k) (some ⟨b, off, none⟩) 0 0 0 (l.drop cap) wr (by rw [hnil]; exact Has.nil _ _ _) (Nat.le_refl _) (by omega) (Nat.zero_le _)
      rw [sq_nv k (by omega)] at hdec
      have HST := Lib.hid (At.stop HAT.out (by rw [← HK.out]; exact hd))
      have HD := Lib.hid hd
      clear hd hnil hz
      go_wp2_with fail
      refine hdec.mono ?_
      rintro r w1 hr
      obtain ⟨v1, x, y, rfl, hx, hb1⟩ := hr.bad HD.out
      have hx' : (x == 0) = false := by simp [hx]
      replace hown := own_below hown hb1
      have HMb := Lib.hid (HM.out.below hb1)
      replace hb := hb.trans (hb1.mono hb.size)
      go_wp2
      rw [Exit.noGoto_ret]
      go_ret2
      refine ⟨⟨u6, vs, ?_, ?_, ?_⟩, hb⟩
      · rw [HST.out]; rfl
      · rw [HST.out]
        show w1.ownsRow _ _ _ _ ps.length _
        rw [← HK.out]; exact hown
      · rw [HST.out]; exact HMb.out
    · have hdec := decode_any e (sq k) (some ⟨b, off + n, none⟩) (len - n) (cap - n) B (l.drop n) wr ((HA.out.below' hb hB).tail8 n hn) (by omega) (by omega) (Nat.le_trans hB hb.size)
      rw [sq_nv k (by omega)] at hdec
      by_cases hd : derr (l.drop n) e (sq k) = 0
      · have HD := Lib.hid hd
        obtain ⟨d, hdn⟩ : ∃ d, d = dn (l.drop n) e (sq k) := ⟨_, rfl⟩
        have hdb : n + d ≤ len := by have := (dn_fit hd).2.1; rw [List.length_drop, HL.out] at this; omega
        have hdp := (dn_fit hd).1
        have HNX := Lib.hid (At.next HAT.out (by rw [← HK.out]; exact hd))
        rw [← HK.out, ← hdn] at HNX
        have hk2 : 14 * (k + 1) ≤ n + d := by have := HAT.out.2.1; rw [← HK.out] at this; omega
        have HDN := Lib.hid hdn
        clear hd hdn hdp
        go_wp2_with fail
        refine hdec.mono ?_
        rintro r w1 hr
        obtain ⟨v1, rfl, hv1, HS, hb1⟩ := hr.got HD.out
        rw [← HDN.out]
        replace hown := own_below hown hb1
        have HMb := Lib.hid ((HM.out.below hb1).snoc HS)
        obtain ⟨A1, c1, rfl, _, _, _, _⟩ := HS
        obtain ⟨p1, hp1⟩ : ∃ p, p = dpl (l.drop n) e (sq k) := ⟨_, rfl⟩
        rw [← hp1] at HMb HNX ⊢
        clear hp1 hv1
        have HV := Lib.hid hown
        replace hb := hb.trans (hb1.mono hb.size)
        clear hr hdec
        go_wp2_with (at_builtin; refine wpList_app_one w1 rfl _ _ 35 rfl w.heap.size 23 i9 (.slice none 0 0) 24 tyBss hi9 hz0 hz1 hz2 rfl _ (by exact rfl) _ _ _ (by exact rfl) hown (by exact rfl) (by unfold maxLen; omega) (by omega) hb (Nat.le_refl _) ?_; intro v2 w2 hown2 hb2 hgr)
        go_roundg (gk - 1)
        case rel =>
          obtain ⟨g, hg, hat⟩ := HNX.out
          refine ⟨n + d, ps ++ [p1], vs ++ [.slice A1 p1.length c1], hdb, by simp; have := HK.out; omega, by go_num, ?_, ?_, ?_, ?_, hb2⟩
          · simp only [List.length_append, List.length_singleton, ← HK.out]; go_num
          · rw [hg]; exact hat
          · exact (HMb.out.grown HV.out hgr)
          · simp only [List.length_append, List.length_singleton, ← HK.out]; exact hown2
        case measure => obtain ⟨g, hg, _⟩ := HNX.out; omega
      · have HST := Lib.hid (At.stop HAT.out (by rw [← HK.out]; exact hd))
        have HD := Lib.hid hd
        clear hd
        go_wp2_with fail
        refine hdec.mono ?_
        rintro r w1 hr
        obtain ⟨v1, x, y, rfl, hx, hb1⟩ := hr.bad HD.out
        have hx' : (x == 0) = false := by simp [hx]
        replace hown := own_below hown hb1
        have HMb := Lib.hid (HM.out.below hb1)
        replace hb := hb.trans (hb1.mono hb.size)
        go_wp2
        rw [Exit.noGoto_ret]
        go_ret2
        refine ⟨⟨u6, vs, ?_, ?_, ?_⟩, hb⟩
        · rw [HST.out]; rfl
        · rw [HST.out]
          show w1.ownsRow _ _ _ _ ps.length _
          rw [← HK.out]; exact hown
        · rw [HST.out]; exact HMb.out

set_option maxHeartbeats 2000000 in
theorem refScan_any (e : W32) (b off len cap B : Nat) (l : List UInt8) (w : World) (hA : Has w B (some ⟨b, off, none⟩) len (l.map bv)) (hlc : len ≤ cap) (hlen : len ≤ 1000000) (hB : B ≤ w.heap.size) :
    Calls Try.prog 18 #[.slice (some ⟨b, off, none⟩) len cap, .int .u32 (nv e)] w (ScanP w l e) := by
  obtain ⟨i9, hi9, hz0, hz1, hz2⟩ := info_parts infoBs
  have HL := Lib.hid hA.from8
  have HA := Lib.hid hA
  clear hA
  go_enter Try.func18, Try.ntmps18
  go_wp2
  go_loopg [6, 7] (l.length + 1) (fun g v x wr => ∃ (n : Nat) (ps : List (List UInt8)) (vs : List Value), n ≤ len ∧ ps.length ≤ 1000000 ∧ x = .int .i64 n ∧ Hid (At l e g n ps) ∧ Hid (Many wr vs ps) ∧
      wr.ownsRow w.heap.size 23 1 v ps.length vs ∧ Below w.heap.size w wr)
  case atStart => exact ⟨0, [], [], Nat.zero_le _, by simp, rfl, At.start l e, Many.nil _, World.ownsRow_nil _ _ _ _, Below.refl _ _⟩
  case round =>
    obtain ⟨n, ps, vs, hn, hps, rfl, HAT, HM, hown, hb⟩ := hrel
    obtain ⟨k, hk⟩ : ∃ k, k = ps.length := ⟨_, rfl⟩
    have HK := Lib.hid hk
    rw [← hk] at hown hps
    clear hk
    have hn2 : n ≤ cap := by omega
    have HBw := Lib.hid hb
    obtain ⟨Ao, co, rfl, _, _⟩ := Has.of_own hown
    by_cases hcn : cap = n
    · obtain rfl : n = len := by omega
      subst hcn
      have hz : cap - cap = 0 := Nat.sub_self cap
      have hnil : l.drop cap = [] := List.drop_of_length_le (by rw [HL.out]; omega)
      have hd : derr (l.drop cap) e (sq k) ≠ 0 := by rw [hnil, derr_1 (by decide)]; decide
      have hdec := refDecode_any e (sq k) (some ⟨b, off, none⟩) 0 0 0 (l.drop cap) wr (by rw [hnil]; exact Has.nil _ _ _) (Nat.le_refl _) (by omega) (Nat.zero_le _)
      rw [sq_nv k (by omega)] at hdec
      have HST := Lib.hid (At.stop HAT.out (by rw [← HK.out]; exact hd))
      have HD := Lib.hid hd
      clear hd hnil hz
      go_wp2_with fail
      refine hdec.mono ?_
      rintro r w1 hr
      obtain ⟨v1, x, y, rfl, hx, hb1⟩ := hr.bad HD.out
      have hx' : (x != 0) = true := by simp [hx]
      replace hown := own_below hown hb1
      have HMb := Lib.hid (HM.out.below hb1)
      replace hb := hb.trans (hb1.mono hb.size)
      go_wp2
      go_ret2
      refine ⟨⟨.slice Ao k co, vs, ?_, ?_, ?_⟩, hb⟩
      · rw [HST.out]; rfl
      · rw [HST.out]
        show w1.ownsRow _ _ _ _ ps.length _
        rw [← HK.out]; exact hown
      · rw [HST.out]; exact HMb.out
    · have hdec := refDecode_any e (sq k) (some ⟨b, off + n, none⟩) (len - n) (cap - n) B (l.drop n) wr ((HA.out.below' hb hB).tail8 n hn) (by omega) (by omega) (Nat.le_trans hB hb.size)
      rw [sq_nv k (by omega)] at hdec
      by_cases hd : derr (l.drop n) e (sq k) = 0
      · have HD := Lib.hid hd
        obtain ⟨d, hdn⟩ : ∃ d, d = dn (l.drop n) e (sq k) := ⟨_, rfl⟩
        have hdb : n + d ≤ len := by have := (dn_fit hd).2.1; rw [List.length_drop, HL.out] at this; omega
        have hdp := (dn_fit hd).1
        have HNX := Lib.hid (At.next HAT.out (by rw [← HK.out]; exact hd))
        rw [← HK.out, ← hdn] at HNX
        have hk2 : 14 * (k + 1) ≤ n + d := by have := HAT.out.2.1; rw [← HK.out] at this; omega
        have HDN := Lib.hid hdn
        clear hd hdn hdp
        go_wp2_with fail
        refine hdec.mono ?_
        rintro r w1 hr
        obtain ⟨v1, rfl, hv1, HS, hb1⟩ := hr.got HD.out
        rw [← HDN.out]
        replace hown := own_below hown hb1
        have HMb := Lib.hid ((HM.out.below hb1).snoc HS)
        obtain ⟨A1, c1, rfl, _, _, _, _⟩ := HS
        obtain ⟨p1, hp1⟩ : ∃ p, p = dpl (l.drop n) e (sq k) := ⟨_, rfl⟩
        rw [← hp1] at HMb HNX ⊢
        clear hp1 hv1
        have HV := Lib.hid hown
        replace hb := hb.trans (hb1.mono hb.size)
        clear hr hdec
        go_wp2_with (at_builtin; refine wpList_app_one w1 rfl _ _ 35 rfl w.heap.size 23 i9 (.slice none 0 0) 24 tyBss hi9 hz0 hz1 hz2 rfl _ (by exact rfl) _ _ _ (by exact rfl) hown (by exact rfl) (by unfold maxLen; omega) (by omega) hb (Nat.le_refl _) ?_; intro v2 w2 hown2 hb2 hgr)
        go_roundg (gk - 1)
        case rel =>
          obtain ⟨g, hg, hat⟩ := HNX.out
          refine ⟨n + d, ps ++ [p1], vs ++ [.slice A1 p1.length c1], hdb, by simp; have := HK.out; omega, by go_num, ?_, ?_, ?_, hb2⟩
          · rw [hg]; exact hat
          · exact (HMb.out.grown HV.out hgr)
          · simp only [List.length_append, List.length_singleton, ← HK.out]; exact hown2
        case measure => obtain ⟨g, hg, _⟩ := HNX.out; omega
      · have HST := Lib.hid (At.stop HAT.out (by rw [← HK.out]; exact hd))
        have HD := Lib.hid hd
        clear hd
        go_wp2_with fail
        refine hdec.mono ?_
        rintro r w1 hr
        obtain ⟨v1, x, y, rfl, hx, hb1⟩ := hr.bad HD.out
        have hx' : (x != 0) = true := by simp [hx]
        replace hown := own_below hown hb1
        have HMb := Lib.hid (HM.out.below hb1)
        replace hb := hb.trans (hb1.mono hb.size)
        go_wp2
        go_ret2
        refine ⟨⟨.slice Ao k co, vs, ?_, ?_, ?_⟩, hb⟩
        · rw [HST.out]; rfl
        · rw [HST.out]
          show w1.ownsRow _ _ _ _ ps.length _
          rw [← HK.out]; exact hown
        · rw [HST.out]; exact HMb.out

set_option maxHeartbeats 2000000 in
theorem scan_zero (e : W32) (A : Option Addr) (cap : Nat) (w : World) (hcap : A = none → cap = 0) :
    Calls Try.prog 17 #[.slice A 0 cap, .int .u32 (nv e)] w (ScanP w [] e) := by
  have hd : derr [] e (sq 0) ≠ 0 := by rw [derr_1 (by decide)]; decide
  have hdec := fun (X : Option Addr) (c : Nat) => decode_any e (sq 0) X 0 c 0 [] w (Has.nil _ _ _) (Nat.zero_le _) (by omega) (Nat.zero_le _)
  rw [sq_nv 0 (by omega)] at hdec
  have hdec : ∀ (X : Option Addr) (c : Nat), Calls Try.prog 15 #[.slice X 0 c, .int .u32 (nv e), .int .u32 0] w (DecP w [] e (sq 0)) := hdec
  have HST := Lib.hid (show scanB 1 [] e 0 = ([], 0) from scanB_no hd)
  have HD := Lib.hid hd
  clear hd
  go_enter Try.func17, Try.ntmps17
  go_wp2
  go_step3
  go_wp2
  go_step3
  go_wp2
  go_loopg [6, 7, 8] 0 (fun g v x y wr => wr = w ∧ v = .slice none 0 0 ∧ x = .int .i64 0 ∧ y = .int .u32 0)
  case atStart => exact ⟨rfl, rfl, rfl, rfl⟩
  case round =>
    obtain ⟨rfl, rfl, rfl, rfl⟩ := hrel
    have hfin : ∀ w1, Below wr.heap.size wr w1 → ScanP wr [] e (.returned (.tuple #[.slice none 0 0, .int .i64 0])) w1 := fun w1 hb => by
      refine ⟨⟨.slice none 0 0, [], ?_, ?_, ?_⟩, hb⟩
      · show _ = Ending.returned (.tuple #[_, .int .i64 ((scanB 1 [] e 0).2 : Int)])
        rw [HST.out]; rfl
      · show w1.ownsRow _ _ _ _ (scanB 1 [] e 0).1.length _
        rw [HST.out]; exact World.ownsRow_nil _ _ _ _
      · show Many w1 [] (scanB 1 [] e 0).1
        rw [HST.out]; exact Many.nil _
    by_cases hc0 : cap = 0
    · subst hc0
      go_wp2_with fail
      refine (hdec _ _).mono ?_
      rintro r w1 hr
      obtain ⟨v1, x, y, rfl, hx, hb1⟩ := hr.bad HD.out
      have hx' : (x == 0) = false := by simp [hx]
      go_wp2
      rw [Exit.noGoto_ret]
      go_ret2
      exact hfin _ hb1
    · obtain ⟨ad, rfl⟩ : ∃ ad, A = some ad := by
        cases A with
        | none => exact absurd (hcap rfl) hc0
        | some ad => exact ⟨ad, rfl⟩
      clear hcap
      go_wp2_with fail
      refine (hdec _ _).mono ?_
      rintro r w1 hr
      obtain ⟨v1, x, y, rfl, hx, hb1⟩ := hr.bad HD.out
      have hx' : (x == 0) = false := by simp [hx]
      go_wp2
      rw [Exit.noGoto_ret]
      go_ret2
      exact hfin _ hb1

set_option maxHeartbeats 2000000 in
theorem refScan_zero (e : W32) (A : Option Addr) (cap : Nat) (w : World) (hcap : A = none → cap = 0) :
    Calls Try.prog 18 #[.slice A 0 cap, .int .u32 (nv e)] w (ScanP w [] e) := by
  have hd : derr [] e (sq 0) ≠ 0 := by rw [derr_1 (by decide)]; decide
  have hdec := fun (X : Option Addr) (c : Nat) => refDecode_any e (sq 0) X 0 c 0 [] w (Has.nil _ _ _) (Nat.zero_le _) (by omega) (Nat.zero_le _)
  rw [sq_nv 0 (by omega)] at hdec
  have hdec : ∀ (X : Option Addr) (c : Nat), Calls Try.prog 16 #[.slice X 0 c, .int .u32 (nv e), .int .u32 0] w (DecP w [] e (sq 0)) := hdec
  have HST := Lib.hid (show scanB 1 [] e 0 = ([], 0) from scanB_no hd)
  have HD := Lib.hid hd
  clear hd
  go_enter Try.func18, Try.ntmps18
  go_wp2
  go_loopg [6, 7] 0 (fun g v x wr => wr = w ∧ v = .slice none 0 0 ∧ x = .int .i64 0)
  case atStart => exact ⟨rfl, rfl, rfl⟩
  case round =>
    obtain ⟨rfl, rfl, rfl⟩ := hrel
    have hfin : ∀ w1, Below wr.heap.size wr w1 → ScanP wr [] e (.returned (.tuple #[.slice none 0 0, .int .i64 0])) w1 := fun w1 hb => by
      refine ⟨⟨.slice none 0 0, [], ?_, ?_, ?_⟩, hb⟩
      · show _ = Ending.returned (.tuple #[_, .int .i64 ((scanB 1 [] e 0).2 : Int)])
        rw [HST.out]; rfl
      · show w1.ownsRow _ _ _ _ (scanB 1 [] e 0).1.length _
        rw [HST.out]; exact World.ownsRow_nil _ _ _ _
      · show Many w1 [] (scanB 1 [] e 0).1
        rw [HST.out]; exact Many.nil _
    by_cases hc0 : cap = 0
    · subst hc0
      go_wp2_with fail
      refine (hdec _ _).mono ?_
      rintro r w1 hr
      obtain ⟨v1, x, y, rfl, hx, hb1⟩ := hr.bad HD.out
      have hx' : (x != 0) = true := by simp [hx]
      go_wp2
      go_ret2
      exact hfin _ hb1
    · obtain ⟨ad, rfl⟩ : ∃ ad, A = some ad := by
        cases A with
        | none => exact absurd (hcap rfl) hc0
        | some ad => exact ⟨ad, rfl⟩
      clear hcap
      go_wp2_with fail
      refine (hdec _ _).mono ?_
      rintro r w1 hr
      obtain ⟨v1, x, y, rfl, hx, hb1⟩ := hr.bad HD.out
      have hx' : (x != 0) = true := by simp [hx]
      go_wp2
      go_ret2
      exact hfin _ hb1

theorem scan_all (e : W32) (A : Option Addr) (len cap B : Nat) (l : List UInt8) (w : World) (hA : Has w B A len (l.map bv)) (hcap : A = none → cap = 0) (hlc : len ≤ cap) (hlen : len ≤ 1000000) (hB : B ≤ w.heap.size) :
    Calls Try.prog 17 #[.slice A len cap, .int .u32 (nv e)] w (ScanP w l e) := by
  by_cases h0 : len = 0
  · subst h0
    have hl : l = [] := List.eq_nil_of_length_eq_zero hA.from8
    subst hl
    exact scan_zero e A cap w hcap
  · obtain ⟨b, off, rfl, _⟩ := hA.2 (by omega)
    exact scan_any e b off len cap B l w hA hlc hlen hB
theorem refScan_all (e : W32) (A : Option Addr) (len cap B : Nat) (l : List UInt8) (w : World) (hA : Has w B A len (l.map bv)) (hcap : A = none → cap = 0) (hlc : len ≤ cap) (hlen : len ≤ 1000000) (hB : B ≤ w.heap.size) :
    Calls Try.prog 18 #[.slice A len cap, .int .u32 (nv e)] w (ScanP w l e) := by
  by_cases h0 : len = 0
  · subst h0
    have hl : l = [] := List.eq_nil_of_length_eq_zero hA.from8
    subst hl
    exact refScan_zero e A cap w hcap
  · obtain ⟨b, off, rfl, _⟩ := hA.2 (by omega)
    exact refScan_any e b off len cap B l w hA hlc hlen hB

end Go.Proofs.Ytfnoahbhccgbgaa
