/-
Contracts of Scan, of package frame and of its reference; lists of slices of bytes in memory.
What a walk of a statement is told of a slice of bytes that came in ('In8').
Contract of the helper Lists of the statements (package hstsstorekeep).
Lists of slices of bytes that a call made, apart from all else.
-/
import Derived.Test.YtbcfjkfkkklgbaaB06
import Derived.Test.YtbcfjkfkkklgbaaB07
import Derived.Deep.LoopGhost
import Derived.WalkMore
import Derived.Test.YtbcfjkfkkklgbaaB04
import Derived.Test.YtbcfjkfkkklgbaaB01
import Derived.Test.YtbcfjkfkkklgbaaB02
namespace Go.Proofs.Ytbcfjkfkkklgbaa
section
open Go.RowKit

theorem tyBss : Try.prog.underlying 22 = some (.slice 34) := by kernel_rfl
theorem infoSl : (Try.prog.info? 34).map (fun i => (i.zero, i.size, i.bytes)) = some (some (.slice none 0 0), 1, 24) := by kernel_rfl

/-- A value that is a slice of these bytes. -/
def Slc (B : Nat) (w : World) (v : Value) (p : List UInt8) : Prop := ∃ A c, v = .slice A p.length c ∧ (A = none → c = 0) ∧ p.length ≤ c ∧ Has w w.heap.size A p.length (p.map bv) ∧ Typ8 B w A p.length
def Many (B : Nat) (w : World) (vs : List Value) (ps : List (List UInt8)) : Prop := vs.length = ps.length ∧ ∀ (i : Nat) (v : Value) (p : List UInt8), vs[i]? = some v → ps[i]? = some p → Slc B w v p
theorem Slc.mono {B B' : Nat} {w : World} {v : Value} {p : List UInt8} (h : Slc B w v p) (hB : B' ≤ B) : Slc B' w v p := by
  obtain ⟨A, c, e, h1, h2, h3, h4⟩ := h
  exact ⟨A, c, e, h1, h2, h3, h4.mono hB⟩
theorem Slc.below {B : Nat} {w w' : World} {v : Value} {p : List UInt8} (h : Slc B w v p) (hb : Below w.heap.size w w') : Slc B w' v p := by
  obtain ⟨A, c, e, h1, h2, h3, h4⟩ := h
  exact ⟨A, c, e, h1, h2, (h3.below hb).more hb.size, h4.below hb⟩
theorem Many.below {B : Nat} {w w' : World} {vs : List Value} {ps : List (List UInt8)} (h : Many B w vs ps) (hb : Below w.heap.size w w') : Many B w' vs ps := ⟨h.1, fun i v p h1 h2 => (h.2 i v p h1 h2).below hb⟩
theorem Many.nil (B : Nat) (w : World) : Many B w [] [] := ⟨rfl, fun i v p h => by simp at h⟩
theorem Many.snoc {B : Nat} {w : World} {vs : List Value} {ps : List (List UInt8)} (h : Many B w vs ps) {v : Value} {p : List UInt8} (hv : Slc B w v p) : Many B w (vs ++ [v]) (ps ++ [p]) := by
  refine ⟨by simp [h.1], fun i v' p' h1 h2 => ?_⟩
  by_cases hi : i < vs.length
  · rw [List.getElem?_append_left hi] at h1
    rw [List.getElem?_append_left (by rw [← h.1]; exact hi)] at h2
    exact h.2 i v' p' h1 h2
  · rw [List.getElem?_append_right (by omega)] at h1
    rw [List.getElem?_append_right (by rw [← h.1]; omega), ← h.1] at h2
    match hj : i - vs.length, h1, h2 with
    | 0, h1, h2 =>
      simp at h1 h2
      subst h1 h2
      exact hv
    | j + 1, h1, _ => simp at h1
/-- A row of slices grew: the slices of bytes stay. -/
theorem Slc.grown {B : Nat} {w w' : World} {base m : Nat} {o v : Value} {xs : List Value} {p : List UInt8} (h : Slc B w v p) (hown : w.ownsRow base 34 1 o m xs) (hg : w.grownBy w' o.ownBlock) : Slc B w' v p := by
  obtain ⟨A, c, e, h1, h2, h3, h4⟩ := h
  have hne : ∀ (b : Nat) (cs : Array Value) (fr : Nat × Nat), w.heap[b]? = some (.cells cs 5 fr) → w'.heap[b]? = w.heap[b]? := by
    intro b cs fr hb
    refine hg.block b (Array.getElem?_eq_some_iff.1 hb).1 ?_
    rcases hown.2 with ⟨rfl, _⟩ | ⟨g, cap, cur, rfl, _, hgg, _⟩
    · simp [Value.ownBlock]
    · intro he
      simp [Value.ownBlock] at he
      subst he
      rw [hgg] at hb
      injection hb with hb
      injection hb with _ hb _
      exact absurd hb (by decide)
  refine ⟨A, c, e, h1, h2, ⟨h3.1, fun h0 => ?_⟩, fun h0 => ?_⟩
  · obtain ⟨b, off, e1, hb, hc⟩ := h3.2 h0
    obtain ⟨b', off', cs, fr, e2, hl, hh⟩ := h4 h0
    rw [e1] at e2
    injection e2 with e2
    injection e2 with e2 e3 _
    subst e2 e3
    exact ⟨b, off, e1, Nat.lt_of_lt_of_le hb hg.size, fun j hj => (World.cell?_of_block (hne b cs fr hh)).trans (hc j hj)⟩
  · obtain ⟨b', off', cs, fr, e2, hl, hh⟩ := h4 h0
    exact ⟨b', off', cs, fr, e2, hl, (hne b' cs fr hh).trans hh⟩
theorem Many.grown {B : Nat} {w w' : World} {base m : Nat} {o : Value} {xs vs : List Value} {ps : List (List UInt8)} (h : Many B w vs ps) (hown : w.ownsRow base 34 1 o m xs) (hg : w.grownBy w' o.ownBlock) : Many B w' vs ps :=
  ⟨h.1, fun i v p h1 h2 => (h.2 i v p h1 h2).grown hown hg⟩

/-- What Scan answers, and what is left in memory. -/
def ScanP (w : World) (l : List UInt8) (e : W32) (r : Ending) (w' : World) : Prop :=
  (∃ v vs, r = .returned (.tuple #[v, .int .i64 ((scanB (l.length + 1) l e 0).2 : Int)]) ∧ w'.ownsRow w.heap.size 34 1 v (scanB (l.length + 1) l e 0).1.length vs ∧ Many w.heap.size w' vs (scanB (l.length + 1) l e 0).1) ∧ Below w.heap.size w w'

/-- How far a scan has come: f rounds at most are to come. -/
def At (l : List UInt8) (e : W32) (f n : Nat) (ps : List (List UInt8)) : Prop :=
  n ≤ l.length ∧ 14 * ps.length ≤ n ∧ l.length < n + f ∧ scanB (l.length + 1) l e 0 = (ps ++ (scanB f (l.drop n) e ps.length).1, n + (scanB f (l.drop n) e ps.length).2)
theorem At.start (l : List UInt8) (e : W32) : At l e (l.length + 1) 0 [] := ⟨Nat.zero_le _, by simp, by omega, by simp⟩
theorem At.next {l : List UInt8} {e : W32} {f n : Nat} {ps : List (List UInt8)} (h : At l e f n ps) (hd : derr (l.drop n) e (sq ps.length) = 0) :
    ∃ g, f = g + 1 ∧ At l e g (n + dn (l.drop n) e (sq ps.length)) (ps ++ [dpl (l.drop n) e (sq ps.length)]) := by
  obtain ⟨h1, h2, h3, h4⟩ := h
  have hf := dn_fit hd
  rw [List.length_drop] at hf
  match f, h3, h4 with
  | 0, h3, _ => omega
  | g + 1, h3, h4 =>
    refine ⟨g, rfl, by omega, by simp; omega, by omega, ?_⟩
    rw [h4, scanB_yes hd, List.drop_drop]
    simp [Nat.add_assoc]
theorem At.stop {l : List UInt8} {e : W32} {f n : Nat} {ps : List (List UInt8)} (h : At l e f n ps) (hd : derr (l.drop n) e (sq ps.length) ≠ 0) : scanB (l.length + 1) l e 0 = (ps, n) := by
  rw [h.2.2.2, scanB_no hd]
  simp
theorem sq_nv (k : Nat) (hk : k < 4294967296) : nv (sq k) = (k : Int) := by
  have h : ((sq k).toNat : Int) = (k : Int) := by simp [sq]; omega
  rw [← h]
  unfold nv
  rfl
theorem Has.from8 {w : World} {B n : Nat} {A : Option Addr} {l : List UInt8} (h : Has w B A n (l.map bv)) : l.length = n := by simpa using h.1

theorem DecP.got {w w' : World} {l : List UInt8} {e q : W32} {r : Ending} (h : DecP w l e q r w') (hd : derr l e q = 0) : ∃ v, r = .returned (.tuple #[v, .int .i64 (dn l e q : Int), .int .i64 0]) ∧ v.oneCell' = true ∧ Slc w.heap.size w' v (dpl l e q) ∧ Below w.heap.size w w' := by
  obtain ⟨⟨P, c, rfl, h1, h2, h3, h4⟩, hb⟩ := h
  rw [hd]
  exact ⟨_, rfl, rfl, ⟨P, c, rfl, h2, h3, h1, h4⟩, hb⟩
theorem DecP.bad {w w' : World} {l : List UInt8} {e q : W32} {r : Ending} (h : DecP w l e q r w') (hd : derr l e q ≠ 0) : ∃ (v : Value) (x y : Int), r = .returned (.tuple #[v, .int .i64 y, .int .i64 x]) ∧ x ≠ 0 ∧ Below w.heap.size w w' := by
  obtain ⟨⟨P, c, rfl, h1, h2, h3, h4⟩, hb⟩ := h
  exact ⟨_, _, _, rfl, by omega, hb⟩

set_option maxHeartbeats 2000000 in
theorem scan_any (e : W32) (b off len cap B : Nat) (l : List UInt8) (w : World) (hA : Has w B (some ⟨b, off, none⟩) len (l.map bv)) (hlc : len ≤ cap) (hlen : len ≤ 1000000) (hB : B ≤ w.heap.size) :
    Calls Try.prog 58 #[.slice (some ⟨b, off, none⟩) len cap, .int .u32 (nv e)] w (ScanP w l e) := by
  obtain ⟨i9, hi9, hz0, hz1, hz2⟩ := info_parts infoSl
  have HL := Lib.hid hA.from8
  have HA := Lib.hid hA
  clear hA
  go_enter Try.func58, Try.ntmps58
  go_wp2
  go_step3
  go_wp2
  go_step3
  go_wp2
  go_loopg [6, 7, 8] (l.length + 1) (fun g v x y wr => ∃ (n : Nat) (ps : List (List UInt8)) (vs : List Value), n ≤ len ∧ ps.length ≤ 1000000 ∧ x = .int .i64 n ∧ y = .int .u32 ps.length ∧ Hid (At l e g n ps) ∧ Hid (Many w.heap.size wr vs ps) ∧
      wr.ownsRow w.heap.size 34 1 v ps.length vs ∧ Below w.heap.size w wr)
  case atStart => exact ⟨0, [], [], Nat.zero_le _, by simp, rfl, rfl, At.start l e, Many.nil _ _, World.ownsRow_nil _ _ _ _, Below.refl _ _⟩
  case round =>
    obtain ⟨n, ps, vs, hn, hps, rfl, rfl, HAT, HM, hown, hb⟩ := hrel
    obtain ⟨k, hk⟩ : ∃ k, k = ps.length := ⟨_, rfl⟩
    have HK := Lib.hid hk
    rw [← hk] at hown hps ⊢
    clear hk
    have hn2 : n ≤ cap := by omega
    have HBw := Lib.hid hb
    by_cases hcn : cap = n
    · obtain rfl : n = len := by omega
      subst hcn
      have hz : cap - cap = 0 := Nat.sub_self cap
      have hnil : l.drop cap = [] := List.drop_of_length_le (by rw [HL.out]; omega)
      have hd : derr (l.drop cap) e (sq k) ≠ 0 := by rw [hnil, derr_1 (by decide)]; decide
      have hdec := decode_any e (sq k) (some ⟨b, off, none⟩) 0 0 0 (l.drop cap) wr (by rw [hnil]; exact Has.nil _ _ _) (Nat.le_refl _) (by omega) (Nat.zero_le _)
      rw [sq_nv k (by omega)] at hdec
      have HST := Lib.hid (At.stop HAT.out (by rw [← HK.out]; exact hd))
      have HD := Lib.hid hd
      clear hd hnil hz
      go_wp2_with fail
      refine hdec.mono ?_
      rintro r w1 hr
      obtain ⟨v1, x, y, rfl, hx, hb1⟩ := hr.bad HD.out
      have hx' : (x == 0) = false := by simp [hx]
      replace hown := own_below hown hb1
      have HMb := Lib.hid (HM.out.below hb1)
      replace hb := hb.trans (hb1.mono hb.size)
      go_wp2
      rw [Exit.noGoto_ret]
      go_ret2
      refine ⟨⟨u6, vs, ?_, ?_, ?_⟩, hb⟩
      · rw [HST.out]; rfl
      · rw [HST.out]
        show w1.ownsRow _ _ _ _ ps.length _
        rw [← HK.out]; exact hown
      · rw [HST.out]; exact HMb.out
    · have hdec := decode_any e (sq k) (some ⟨b, off + n, none⟩) (len - n) (cap - n) B (l.drop n) wr ((HA.out.below' hb hB).tail8 n hn) (by omega) (by omega) (Nat.le_trans hB hb.size)
      rw [sq_nv k (by omega)] at hdec
      by_cases hd : derr (l.drop n) e (sq k) = 0
      · have HD := Lib.hid hd
        obtain ⟨d, hdn⟩ : ∃ d, d = dn (l.drop n) e (sq k) := ⟨_, rfl⟩
        have hdb : n + d ≤ len := by have := (dn_fit hd).2.1; rw [List.length_drop, HL.out] at this; omega
        have hdp := (dn_fit hd).1
        have HNX := Lib.hid (At.next HAT.out (by rw [← HK.out]; exact hd))
        rw [← HK.out, ← hdn] at HNX
        have hk2 : 14 * (k + 1) ≤ n + d := by have := HAT.out.2.1; rw [← HK.out] at this; omega
        have HDN := Lib.hid hdn
        clear hd hdn hdp
        go_wp2_with fail
        refine hdec.mono ?_
        rintro r w1 hr
        obtain ⟨v1, rfl, hv1, HS, hb1⟩ := hr.got HD.out
        rw [← HDN.out]
        replace hown := own_below hown hb1
        have HMb := Lib.hid ((HM.out.below hb1).snoc (HS.mono HBw.out.size))
        obtain ⟨A1, c1, rfl, _, _, _, _⟩ := HS
        obtain ⟨p1, hp1⟩ : ∃ p, p = dpl (l.drop n) e (sq k) := ⟨_, rfl⟩
        rw [← hp1] at HMb HNX ⊢
        clear hp1 hv1
        have HV := Lib.hid hown
        replace hb := hb.trans (hb1.mono hb.size)
        clear hr hdec
        go_wp2_with (at_builtin; refine wpList_app_one w1 rfl _ _ 22 rfl w.heap.size 34 i9 (.slice none 0 0) 24 tyBss hi9 hz0 hz1 hz2 rfl _ (by exact rfl) _ _ _ (by exact rfl) hown (by exact rfl) (by unfold maxLen; omega) (by omega) hb (Nat.le_refl _) ?_; intro v2 w2 hown2 hb2 hgr)
        go_roundg (gk - 1)
        case rel =>
          obtain ⟨g, hg, hat⟩ := HNX.out
          refine ⟨n + d, ps ++ [p1], vs ++ [.slice A1 p1.length c1], hdb, by simp; have := HK.out; omega, by go_num, ?_, ?_, ?_, ?_, hb2⟩
          · simp only [List.length_append, List.length_singleton, ← HK.out]; go_num
          · rw [hg]; exact hat
          · exact (HMb.out.grown HV.out hgr)
          · simp only [List.length_append, List.length_singleton, ← HK.out]; exact hown2
        case measure => obtain ⟨g, hg, _⟩ := HNX.out; omega
      · have HST := Lib.hid (At.stop HAT.out (by rw [← HK.out]; exact hd))
        have HD := Lib.hid hd
        clear hd
        go_wp2_with fail
        refine hdec.mono ?_
        rintro r w1 hr
        obtain ⟨v1, x, y, rfl, hx, hb1⟩ := hr.bad HD.out
        have hx' : (x == 0) = false := by simp [hx]
        replace hown := own_below hown hb1
        have HMb := Lib.hid (HM.out.below hb1)
        replace hb := hb.trans (hb1.mono hb.size)
        go_wp2
        rw [Exit.noGoto_ret]
        go_ret2
        refine ⟨⟨u6, vs, ?_, ?_, ?_⟩, hb⟩
        · rw [HST.out]; rfl
        · rw [HST.out]
          show w1.ownsRow _ _ _ _ ps.length _
          rw [← HK.out]; exact hown
        · rw [HST.out]; exact HMb.out

set_option maxHeartbeats 2000000 in
theorem refScan_any (e : W32) (b off len cap B : Nat) (l : List UInt8) (w : World) (hA : Has w B (some ⟨b, off, none⟩) len (l.map bv)) (hlc : len ≤ cap) (hlen : len ≤ 1000000) (hB : B ≤ w.heap.size) :
    Calls Try.prog 59 #[.slice (some ⟨b, off, none⟩) len cap, .int .u32 (nv e)] w (ScanP w l e) := by
  obtain ⟨i9, hi9, hz0, hz1, hz2⟩ := info_parts infoSl
  have HL := Lib.hid hA.from8
  have HA := Lib.hid hA
  clear hA
  go_enter Try.func59, Try.ntmps59
  go_wp2
  go_loopg [6, 7] (l.length + 1) (fun g v x wr => ∃ (n : Nat) (ps : List (List UInt8)) (vs : List Value), n ≤ len ∧ ps.length ≤ 1000000 ∧ x = .int .i64 n ∧ Hid (At l e g n ps) ∧ Hid (Many w.heap.size wr vs ps) ∧
      wr.ownsRow w.heap.size 34 1 v ps.length vs ∧ Below w.heap.size w wr)
  case atStart => exact ⟨0, [], [], Nat.zero_le _, by simp, rfl, At.start l e, Many.nil _ _, World.ownsRow_nil _ _ _ _, Below.refl _ _⟩
  case round =>
    obtain ⟨n, ps, vs, hn, hps, rfl, HAT, HM, hown, hb⟩ := hrel
    obtain ⟨k, hk⟩ : ∃ k, k = ps.length := ⟨_, rfl⟩
    have HK := Lib.hid hk
    rw [← hk] at hown hps
    clear hk
    have hn2 : n ≤ cap := by omega
    have HBw := Lib.hid hb
    obtain ⟨Ao, co, rfl, _, _⟩ := Has.of_own hown
    by_cases hcn : cap = n
    · obtain rfl : n = len := by omega
      subst hcn
      have hz : cap - cap = 0 := Nat.sub_self cap
      have hnil : l.drop cap = [] := List.drop_of_length_le (by rw [HL.out]; omega)
      have hd : derr (l.drop cap) e (sq k) ≠ 0 := by rw [hnil, derr_1 (by decide)]; decide
      have hdec := refDecode_any e (sq k) (some ⟨b, off, none⟩) 0 0 0 (l.drop cap) wr (by rw [hnil]; exact Has.nil _ _ _) (Nat.le_refl _) (by omega) (Nat.zero_le _)
      rw [sq_nv k (by omega)] at hdec
      have HST := Lib.hid (At.stop HAT.out (by rw [← HK.out]; exact hd))
      have HD := Lib.hid hd
      clear hd hnil hz
      go_wp2_with fail
      refine hdec.mono ?_
      rintro r w1 hr
      obtain ⟨v1, x, y, rfl, hx, hb1⟩ := hr.bad HD.out
      have hx' : (x != 0) = true := by simp [hx]
      replace hown := own_below hown hb1
      have HMb := Lib.hid (HM.out.below hb1)
      replace hb := hb.trans (hb1.mono hb.size)
      go_wp2
      go_ret2
      refine ⟨⟨.slice Ao k co, vs, ?_, ?_, ?_⟩, hb⟩
      · rw [HST.out]; rfl
      · rw [HST.out]
        show w1.ownsRow _ _ _ _ ps.length _
        rw [← HK.out]; exact hown
      · rw [HST.out]; exact HMb.out
    · have hdec := refDecode_any e (sq k) (some ⟨b, off + n, none⟩) (len - n) (cap - n) B (l.drop n) wr ((HA.out.below' hb hB).tail8 n hn) (by omega) (by omega) (Nat.le_trans hB hb.size)
      rw [sq_nv k (by omega)] at hdec
      by_cases hd : derr (l.drop n) e (sq k) = 0
      · have HD := Lib.hid hd
        obtain ⟨d, hdn⟩ : ∃ d, d = dn (l.drop n) e (sq k) := ⟨_, rfl⟩
        have hdb : n + d ≤ len := by have := (dn_fit hd).2.1; rw [List.length_drop, HL.out] at this; omega
        have hdp := (dn_fit hd).1
        have HNX := Lib.hid (At.next HAT.out (by rw [← HK.out]; exact hd))
        rw [← HK.out, ← hdn] at HNX
        have hk2 : 14 * (k + 1) ≤ n + d := by have := HAT.out.2.1; rw [← HK.out] at this; omega
        have HDN := Lib.hid hdn
        clear hd hdn hdp
        go_wp2_with fail
        refine hdec.mono ?_
        rintro r w1 hr
        obtain ⟨v1, rfl, hv1, HS, hb1⟩ := hr.got HD.out
        rw [← HDN.out]
        replace hown := own_below hown hb1
        have HMb := Lib.hid ((HM.out.below hb1).snoc (HS.mono HBw.out.size))
        obtain ⟨A1, c1, rfl, _, _, _, _⟩ := HS
        obtain ⟨p1, hp1⟩ : ∃ p, p = dpl (l.drop n) e (sq k) := ⟨_, rfl⟩
        rw [← hp1] at HMb HNX ⊢
        clear hp1 hv1
        have HV := Lib.hid hown
        replace hb := hb.trans (hb1.mono hb.size)
        clear hr hdec
        go_wp2_with (at_builtin; refine wpList_app_one w1 rfl _ _ 22 rfl w.heap.size 34 i9 (.slice none 0 0) 24 tyBss hi9 hz0 hz1 hz2 rfl _ (by exact rfl) _ _ _ (by exact rfl) hown (by exact rfl) (by unfold maxLen; omega) (by omega) hb (Nat.le_refl _) ?_; intro v2 w2 hown2 hb2 hgr)
        go_roundg (gk - 1)
        case rel =>
          obtain ⟨g, hg, hat⟩ := HNX.out
          refine ⟨n + d, ps ++ [p1], vs ++ [.slice A1 p1.length c1], hdb, by simp; have := HK.out; omega, by go_num, ?_, ?_, ?_, hb2⟩
          · rw [hg]; exact hat
          · exact (HMb.out.grown HV.out hgr)
          · simp only [List.length_append, List.length_singleton, ← HK.out]; exact hown2
        case measure => obtain ⟨g, hg, _⟩ := HNX.out; omega
      · have HST := Lib.hid (At.stop HAT.out (by rw [← HK.out]; exact hd))
        have HD := Lib.hid hd
        clear hd
        go_wp2_with fail
        refine hdec.mono ?_
        rintro r w1 hr
        obtain ⟨v1, x, y, rfl, hx, hb1⟩ := hr.bad HD.out
        have hx' : (x != 0) = true := by simp [hx]
        replace hown := own_below hown hb1
        have HMb := Lib.hid (HM.out.below hb1)
        replace hb := hb.trans (hb1.mono hb.size)
        go_wp2
        go_ret2
        refine ⟨⟨.slice Ao k co, vs, ?_, ?_, ?_⟩, hb⟩
        · rw [HST.out]; rfl
        · rw [HST.out]
          show w1.ownsRow _ _ _ _ ps.length _
          rw [← HK.out]; exact hown
        · rw [HST.out]; exact HMb.out

set_option maxHeartbeats 2000000 in
theorem scan_zero (e : W32) (A : Option Addr) (cap : Nat) (w : World) (hcap : A = none → cap = 0) :
    Calls Try.prog 58 #[.slice A 0 cap, .int .u32 (nv e)] w (ScanP w [] e) := by
  have hd : derr [] e (sq 0) ≠ 0 := by rw [derr_1 (by decide)]; decide
  have hdec := fun (X : Option Addr) (c : Nat) => decode_any e (sq 0) X 0 c 0 [] w (Has.nil _ _ _) (Nat.zero_le _) (by omega) (Nat.zero_le _)
  rw [sq_nv 0 (by omega)] at hdec
  have hdec : ∀ (X : Option Addr) (c : Nat), Calls Try.prog 88 #[.slice X 0 c, .int .u32 (nv e), .int .u32 0] w (DecP w [] e (sq 0)) := hdec
  have HST := Lib.hid (show scanB 1 [] e 0 = ([], 0) from scanB_no hd)
  have HD := Lib.hid hd
  clear hd
  go_enter Try.func58, Try.ntmps58
  go_wp2
  go_step3
  go_wp2
  go_step3
  go_wp2
  go_loopg [6, 7, 8] 0 (fun g v x y wr => wr = w ∧ v = .slice none 0 0 ∧ x = .int .i64 0 ∧ y = .int .u32 0)
  case atStart => exact ⟨rfl, rfl, rfl, rfl⟩
  case round =>
    obtain ⟨rfl, rfl, rfl, rfl⟩ := hrel
    have hfin : ∀ w1, Below wr.heap.size wr w1 → ScanP wr [] e (.returned (.tuple #[.slice none 0 0, .int .i64 0])) w1 := fun w1 hb => by
      refine ⟨⟨.slice none 0 0, [], ?_, ?_, ?_⟩, hb⟩
      · show _ = Ending.returned (.tuple #[_, .int .i64 ((scanB 1 [] e 0).2 : Int)])
        rw [HST.out]; rfl
      · show w1.ownsRow _ _ _ _ (scanB 1 [] e 0).1.length _
        rw [HST.out]; exact World.ownsRow_nil _ _ _ _
      · show Many wr.heap.size w1 [] (scanB 1 [] e 0).1
        rw [HST.out]; exact Many.nil _ _
    by_cases hc0 : cap = 0
    · subst hc0
      go_wp2_with fail
      refine (hdec _ _).mono ?_
      rintro r w1 hr
      obtain ⟨v1, x, y, rfl, hx, hb1⟩ := hr.bad HD.out
      have hx' : (x == 0) = false := by simp [hx]
      go_wp2
      rw [Exit.noGoto_ret]
      go_ret2
      exact hfin _ hb1
    · obtain ⟨ad, rfl⟩ : ∃ ad, A = some ad := by
        cases A with
        | none => exact absurd (hcap rfl) hc0
        | some ad => exact ⟨ad, rfl⟩
      clear hcap
      go_wp2_with fail
      refine (hdec _ _).mono ?_
      rintro r w1 hr
      obtain ⟨v1, x, y, rfl, hx, hb1⟩ := hr.bad HD.out
      have hx' : (x == 0) = false := by simp [hx]
      go_wp2
      rw [Exit.noGoto_ret]
      go_ret2
      exact hfin _ hb1

set_option maxHeartbeats 2000000 in
theorem refScan_zero (e : W32) (A : Option Addr) (cap : Nat) (w : World) (hcap : A = none → cap = 0) :
    Calls Try.prog 59 #[.slice A 0 cap, .int .u32 (nv e)] w (ScanP w [] e) := by
  have hd : derr [] e (sq 0) ≠ 0 := by rw [derr_1 (by decide)]; decide
  have hdec := fun (X : Option Addr) (c : Nat) => refDecode_any e (sq 0) X 0 c 0 [] w (Has.nil _ _ _) (Nat.zero_le _) (by omega) (Nat.zero_le _)
  rw [sq_nv 0 (by omega)] at hdec
  have hdec : ∀ (X : Option Addr) (c : Nat), Calls Try.prog 93 #[.slice X 0 c, .int .u32 (nv e), .int .u32 0] w (DecP w [] e (sq 0)) := hdec
  have HST := Lib.hid (show scanB 1 [] e 0 = ([], 0) from scanB_no hd)
  have HD := Lib.hid hd
  clear hd
  go_enter Try.func59, Try.ntmps59
  go_wp2
  go_loopg [6, 7] 0 (fun g v x wr => wr = w ∧ v = .slice none 0 0 ∧ x = .int .i64 0)
  case atStart => exact ⟨rfl, rfl, rfl⟩
  case round =>
    obtain ⟨rfl, rfl, rfl⟩ := hrel
    have hfin : ∀ w1, Below wr.heap.size wr w1 → ScanP wr [] e (.returned (.tuple #[.slice none 0 0, .int .i64 0])) w1 := fun w1 hb => by
      refine ⟨⟨.slice none 0 0, [], ?_, ?_, ?_⟩, hb⟩
      · show _ = Ending.returned (.tuple #[_, .int .i64 ((scanB 1 [] e 0).2 : Int)])
        rw [HST.out]; rfl
      · show w1.ownsRow _ _ _ _ (scanB 1 [] e 0).1.length _
        rw [HST.out]; exact World.ownsRow_nil _ _ _ _
      · show Many wr.heap.size w1 [] (scanB 1 [] e 0).1
        rw [HST.out]; exact Many.nil _ _
    by_cases hc0 : cap = 0
    · subst hc0
      go_wp2_with fail
      refine (hdec _ _).mono ?_
      rintro r w1 hr
      obtain ⟨v1, x, y, rfl, hx, hb1⟩ := hr.bad HD.out
      have hx' : (x != 0) = true := by simp [hx]
      go_wp2
      go_ret2
      exact hfin _ hb1
    · obtain ⟨ad, rfl⟩ : ∃ ad, A = some ad := by
        cases A with
        | none => exact absurd (hcap rfl) hc0
        | some ad => exact ⟨ad, rfl⟩
      clear hcap
      go_wp2_with fail
      refine (hdec _ _).mono ?_
      rintro r w1 hr
      obtain ⟨v1, x, y, rfl, hx, hb1⟩ := hr.bad HD.out
      have hx' : (x != 0) = true := by simp [hx]
      go_wp2
      go_ret2
      exact hfin _ hb1

theorem scan_all (e : W32) (A : Option Addr) (len cap B : Nat) (l : List UInt8) (w : World) (hA : Has w B A len (l.map bv)) (hcap : A = none → cap = 0) (hlc : len ≤ cap) (hlen : len ≤ 1000000) (hB : B ≤ w.heap.size) :
    Calls Try.prog 58 #[.slice A len cap, .int .u32 (nv e)] w (ScanP w l e) := by
  by_cases h0 : len = 0
  · subst h0
    have hl : l = [] := List.eq_nil_of_length_eq_zero hA.from8
    subst hl
    exact scan_zero e A cap w hcap
  · obtain ⟨b, off, rfl, _⟩ := hA.2 (by omega)
    exact scan_any e b off len cap B l w hA hlc hlen hB
theorem refScan_all (e : W32) (A : Option Addr) (len cap B : Nat) (l : List UInt8) (w : World) (hA : Has w B A len (l.map bv)) (hcap : A = none → cap = 0) (hlc : len ≤ cap) (hlen : len ≤ 1000000) (hB : B ≤ w.heap.size) :
    Calls Try.prog 59 #[.slice A len cap, .int .u32 (nv e)] w (ScanP w l e) := by
  by_cases h0 : len = 0
  · subst h0
    have hl : l = [] := List.eq_nil_of_length_eq_zero hA.from8
    subst hl
    exact refScan_zero e A cap w hcap
  · obtain ⟨b, off, rfl, _⟩ := hA.2 (by omega)
    exact refScan_any e b off len cap B l w hA hlc hlen hB
end

section
open Go.RowKit


/-- What a walk is told of a slice of bytes that came in. -/
def In8 (w : World) (a : Option Addr) (len cap : Nat) (zs : List Int) : Prop :=
  (a = none ∧ len = 0 ∧ cap = 0 ∧ zs = []) ∨
  ∃ x, a = some x ∧ len ≤ cap ∧ cap ≤ maxLen ∧ zs.length = cap ∧ (∀ i, i < zs.length → w.cell? (x.add i) = some (.int .u8 (zs.getD i 0))) ∧ ∀ n ∈ zs, (Lit.int .u8 n).wf = true
theorem eqL_refl (l : List UInt8) : eqL l l = true := by simp [eqL]
theorem map_append_bv (l m : List UInt8) : l.map bv ++ m.map bv = (l ++ m).map bv := by rw [List.map_append]

/-- The room of a row that a value owns is no more than the machine's. -/
theorem own_cap {w : World} {base e n : Nat} {v : Value} {xs : List Value} (h : w.ownsRow base e 1 v n xs) : ∀ A m c, v = .slice A m c → c ≤ maxLen := by
  rintro A m c rfl
  rcases h.2 with ⟨he, _⟩ | ⟨g, cap, cur, he, _, _, _, hc, _⟩
  · injection he with _ _ he; subst he; exact Nat.zero_le _
  · injection he with _ _ he; subst he; exact hc

/-- A row that a value owns and that is not empty, read as a list. -/
theorem has_own {w : World} {base e n : Nat} {v : Value} {xs : List Value} (h : w.ownsRow base e 1 v n xs) (hn : 0 < n) : ∃ g c, v = .slice (some ⟨g, 0, none⟩) n c ∧ Has w w.heap.size (some ⟨g, 0, none⟩) n xs ∧ n ≤ c := by
  obtain ⟨A, c, rfl, hh, hc⟩ := Has.of_own h
  obtain ⟨g, cap, he, _⟩ := owns_cell h hn
  injection he with h1 h2 h3
  subst h1
  exact ⟨g, c, rfl, hh, hc⟩
end

section
open Go.RowKit

def listsB (xs ys : List (List UInt8)) : Bool := decide (xs = ys)
theorem listsB_len (xs ys : List (List UInt8)) (h : xs.length ≠ ys.length) : listsB xs ys = false := by
  unfold listsB; rw [decide_eq_false_iff_not]; intro e; exact h (by rw [e])
theorem listsB_at (xs ys : List (List UInt8)) (k : Nat) (h : k < xs.length) (h' : k < ys.length) (hn : xs[k] ≠ ys[k]) : listsB xs ys = false := by
  unfold listsB; rw [decide_eq_false_iff_not]; intro e; subst e; exact hn rfl
theorem listsB_refl (xs : List (List UInt8)) : listsB xs xs = true := by simp [listsB]
theorem take_succ_eqL {xs ys : List (List UInt8)} {k : Nat} (h : k < xs.length) (h' : k < ys.length) (ht : xs.take k = ys.take k) (he : xs[k] = ys[k]) : xs.take (k + 1) = ys.take (k + 1) := by
  rw [List.take_succ_eq_append_getElem h, List.take_succ_eq_append_getElem h', ht, he]
theorem beq_bs_true {a b : List UInt8} (h : a = b) : ((bs a).toList == (bs b).toList) = true := by rw [h]; simp
theorem beq_bs_false {a b : List UInt8} (h : a ≠ b) : ((bs a).toList == (bs b).toList) = false := by
  rw [beq_eq_false_iff_ne, toList_ls, toList_ls, ls_bs, ls_bs]
  exact h
/-- Slices of bytes, wherever they lie. -/
def ManyH (w : World) (vs : List Value) (ps : List (List UInt8)) : Prop :=
  vs.length = ps.length ∧ ∀ (i : Nat) (v : Value) (p : List UInt8), vs[i]? = some v → ps[i]? = some p → ∃ A c, v = .slice A p.length c ∧ (A = none → c = 0) ∧ p.length ≤ c ∧ Has w w.heap.size A p.length (p.map bv)
theorem Many.weak {B : Nat} {w : World} {vs : List Value} {ps : List (List UInt8)} (h : Many B w vs ps) : ManyH w vs ps :=
  ⟨h.1, fun i v p h1 h2 => by
    obtain ⟨A, c, e, g1, g2, g3, _⟩ := h.2 i v p h1 h2
    exact ⟨A, c, e, g1, g2, g3⟩⟩
theorem ManyH.below {w w' : World} {vs : List Value} {ps : List (List UInt8)} (h : ManyH w vs ps) (hb : Below w.heap.size w w') : ManyH w' vs ps :=
  ⟨h.1, fun i v p h1 h2 => by
    obtain ⟨A, c, e, g1, g2, g3⟩ := h.2 i v p h1 h2
    exact ⟨A, c, e, g1, g2, (g3.below hb).more hb.size⟩⟩
theorem ManyH.take {w : World} {vs : List Value} {ps qs : List (List UInt8)} (h : ManyH w vs (ps ++ qs)) : ManyH w (vs.take ps.length) ps := by
  refine ⟨by have := h.1; simp at this ⊢; omega, fun i v p h1 h2 => ?_⟩
  have hi := (List.getElem?_eq_some_iff.1 h2).1
  rw [List.getElem?_take_of_lt hi] at h1
  exact h.2 i v p h1 (by rw [List.getElem?_append_left hi]; exact h2)
/-- The k-th of many slices: its value lies in its cell, and string(..) of it. -/
theorem ManyH.at_ {w : World} {B n : Nat} {A : Option Addr} {vs : List Value} {ps : List (List UInt8)} (h : ManyH w vs ps) (hA : Has w B A n vs) {k : Nat} (hk : k < ps.length) :
    ∃ b off X c, A = some ⟨b, off, none⟩ ∧ b < B ∧ w.cell? ⟨b, off + k, none⟩ = some (.slice X ps[k].length c) ∧ (X = none → c = 0) ∧ Has w w.heap.size X ps[k].length (ps[k].map bv) ∧
      ∀ q, (convert 34 9 (.slice X ps[k].length c)).run Try.prog (w.drewN q) = .ok (.string (bs ps[k])) (w.drewN q) := by
  have hkv : k < vs.length := by rw [h.1]; exact hk
  have hn : k < n := by rw [← hA.1]; exact hkv
  obtain ⟨b, off, e, hb, hc⟩ := hA.at_ hn
  obtain ⟨X, c, hv, h1, _, h3⟩ := h.2 k vs[k] ps[k] (List.getElem?_eq_getElem hkv) (List.getElem?_eq_getElem hk)
  rw [hv] at hc
  exact ⟨b, off, X, c, e, hb, hc, h1, h3, fun q => str_has (w.drewN q) X _ c w.heap.size _ (h3.drewN q)⟩

set_option maxHeartbeats 1000000 in
theorem listsH_any (A1 A2 : Option Addr) (n1 n2 c1 c2 : Nat) (xs ys : List (List UInt8)) (vs us : List Value) (B : Nat) (w : World) (hA1 : Has w B A1 n1 vs) (hA2 : Has w B A2 n2 us) (hM1 : ManyH w vs xs) (hM2 : ManyH w us ys)
    (hB : B ≤ w.heap.size) (hl1 : n1 ≤ 1000000000) (hl2 : n2 ≤ 1000000000) :
    Calls Try.prog 60 #[.slice A1 n1 c1, .slice A2 n2 c2] w fun e w' => e = .returned (.bool (listsB xs ys)) ∧ Below w.heap.size w w' := by
  have HL1 : Hid (xs.length = n1) := by show _ = _; rw [← hM1.1]; exact hA1.1
  have HL2 : Hid (ys.length = n2) := by show _ = _; rw [← hM2.1]; exact hA2.1
  have HA1 := Lib.hid hA1
  have HA2 := Lib.hid hA2
  have HM1 := Lib.hid hM1
  have HM2 := Lib.hid hM2
  clear hA1 hA2 hM1 hM2
  by_cases hsz : n1 = n2
  · have hsz' : ((n1 : Int) != (n2 : Int)) = false := by simp [hsz]
    have HZ := Lib.hid hsz
    clear hsz
    go_enter Try.func60, Try.ntmps60
    go_wp2
    go_loopw [5] (fun i wr => ∃ k : Nat, k ≤ n1 ∧ i = .int .i64 k ∧ Below w.heap.size w wr ∧ xs.take k = ys.take k) (fun i _ => n1 - (intOf i).toNat)
    case atStart => exact ⟨0, Nat.zero_le _, rfl, Below.refl _ _, rfl⟩
    case round =>
      obtain ⟨k, hk, rfl, hbw, htk⟩ := hrel
      have HT := Lib.hid htk
      clear htk
      by_cases hlt : k < n1
      · have hk1 : k < xs.length := by rw [HL1.out]; exact hlt
        have hk2 : k < ys.length := by rw [HL2.out, ← HZ.out]; exact hlt
        have hlt2 : k < n2 := by rw [← HZ.out]; exact hlt
        obtain ⟨b1, o1, X1, d1, rfl, hb1, hc1, _, _, hr1⟩ := (HM1.out.below hbw).at_ (HA1.out.below' hbw hB) hk1
        obtain ⟨b2, o2, X2, d2, rfl, hb2, hc2, _, _, hr2⟩ := (HM2.out.below hbw).at_ (HA2.out.below' hbw hB) hk2
        obtain ⟨x, hx⟩ : ∃ x, x = xs[k] := ⟨_, rfl⟩
        obtain ⟨y, hy⟩ : ∃ y, y = ys[k] := ⟨_, rfl⟩
        rw [← hx] at hc1 hr1
        rw [← hy] at hc2 hr2
        by_cases he : x = y
        · have HN := Lib.hid (take_succ_eqL hk1 hk2 HT.out (by rw [← hx, ← hy]; exact he))
          have hbe := beq_bs_true he
          clear he hx hy
          go_wp2
          go_quiet (fail)
          go_wp2
          go_roundw
          case rel => exact ⟨k + 1, by omega, by go_num, below_drewN hbw _, HN.out⟩
          case measure => simp [intOf]; omega
        · have HF := Lib.hid (listsB_at xs ys k hk1 hk2 (by rw [← hx, ← hy]; exact he))
          have hbe := beq_bs_false he
          clear he hx hy
          go_wp2
          go_quiet (fail)
          go_wp2
          go_ret
          exact ⟨ret_bool HF.out.symm, below_drewN hbw _⟩
      · have HF : Hid (listsB xs ys = true) := by
          have h := HT.out
          rw [List.take_of_length_le (by rw [HL1.out]; omega), List.take_of_length_le (by rw [HL2.out, ← HZ.out]; omega)] at h
          show _ = _
          unfold listsB
          exact decide_eq_true h
        go_wp2
        go_ret
        exact ⟨ret_bool HF.out.symm, hbw⟩
  · have hsz' : ((n1 : Int) != (n2 : Int)) = true := by simp; omega
    have HF := Lib.hid (listsB_len xs ys (by rw [HL1.out, HL2.out]; exact hsz))
    clear hsz
    go_enter Try.func60, Try.ntmps60
    go_wp2
    go_ret
    exact ⟨ret_bool HF.out.symm, Below.refl _ _⟩

theorem lists_any {C1 C2 : Nat} (A1 A2 : Option Addr) (n1 n2 c1 c2 : Nat) (xs ys : List (List UInt8)) (vs us : List Value) (B : Nat) (w : World) (hA1 : Has w B A1 n1 vs) (hA2 : Has w B A2 n2 us) (hM1 : Many C1 w vs xs) (hM2 : Many C2 w us ys)
    (hB : B ≤ w.heap.size) (hl1 : n1 ≤ 1000000000) (hl2 : n2 ≤ 1000000000) :
    Calls Try.prog 60 #[.slice A1 n1 c1, .slice A2 n2 c2] w fun e w' => e = .returned (.bool (listsB xs ys)) ∧ Below w.heap.size w w' :=
  listsH_any A1 A2 n1 n2 c1 c2 xs ys vs us B w hA1 hA2 hM1.weak hM2.weak hB hl1 hl2
end

section
open Go.RowKit

/-- Slices of bytes, none of them in a block of H. -/
def ManyF (H : Nat → Prop) (w : World) (vs : List Value) (ps : List (List UInt8)) : Prop :=
  vs.length = ps.length ∧ ∀ (i : Nat) (v : Value) (p : List UInt8), vs[i]? = some v → ps[i]? = some p → ∃ A c, v = .slice A p.length c ∧ (A = none → c = 0) ∧ p.length ≤ c ∧ HasF H w A p.length (p.map bv)
theorem ManyF.weak {H : Nat → Prop} {w : World} {vs : List Value} {ps : List (List UInt8)} (h : ManyF H w vs ps) : ManyH w vs ps :=
  ⟨h.1, fun i v p h1 h2 => by
    obtain ⟨A, c, e, g1, g2, g3⟩ := h.2 i v p h1 h2
    exact ⟨A, c, e, g1, g2, g3.has⟩⟩
theorem ManyF.keep {F G : Nat → Prop} {w w1 : World} {vs : List Value} {ps : List (List UInt8)} (h : ManyF F w vs ps) (hf : Frm F w w1) (hG : ∀ b, G b → F b ∨ w.heap.size ≤ b) : ManyF G w1 vs ps :=
  ⟨h.1, fun i v p h1 h2 => by
    obtain ⟨A, c, e, g1, g2, g3⟩ := h.2 i v p h1 h2
    exact ⟨A, c, e, g1, g2, g3.keep hf hG⟩⟩
theorem ManyF.less {F G : Nat → Prop} {w : World} {vs : List Value} {ps : List (List UInt8)} (h : ManyF F w vs ps) (hG : ∀ b, G b → F b) : ManyF G w vs ps :=
  ⟨h.1, fun i v p h1 h2 => by
    obtain ⟨A, c, e, g1, g2, g3⟩ := h.2 i v p h1 h2
    exact ⟨A, c, e, g1, g2, g3.less hG⟩⟩
/-- The blocks that are not between lo and hi. -/
def Out (lo hi : Nat) : Nat → Prop := fun b => b < lo ∨ hi ≤ b
theorem hasF_out {w : World} {base e m c : Nat} {A : Option Addr} {xs : List Value} (h : w.ownsRow base e 1 (.slice A m c) m xs) : HasF (Out base w.heap.size) w A m xs := by
  rcases h.2 with ⟨e, hn⟩ | ⟨g, cap, cur, e, hb, hg, hnc, _⟩
  · subst hn
    exact ⟨by simpa using h.1, fun h0 => absurd h0 (by omega)⟩
  · obtain ⟨A', c', e', hh, _⟩ := Has.of_own h
    refine ⟨hh.1, fun h0 => ?_⟩
    obtain ⟨b, off, eb, hlt, hc⟩ := hh.2 h0
    injection e with e1 _ _
    injection e' with e2 _ _
    rw [← e2, e1] at eb
    injection eb with eb
    injection eb with eb1 eb2
    subst eb1
    exact ⟨g, off, by rw [e1]; congr 2, hlt, fun hf => by unfold Out at hf; omega, hc⟩
theorem Many.out {B : Nat} {w : World} {vs : List Value} {ps : List (List UInt8)} (h : Many B w vs ps) : ManyF (Out B w.heap.size) w vs ps :=
  ⟨h.1, fun i v p h1 h2 => by
    obtain ⟨A, c, e, g1, g2, g3, g4⟩ := h.2 i v p h1 h2
    refine ⟨A, c, e, g1, g2, g3.1, fun h0 => ?_⟩
    obtain ⟨b, off, e1, hb, hc⟩ := g3.2 h0
    obtain ⟨b', off', cs, fr, e2, hl, _⟩ := g4 h0
    rw [e1] at e2
    injection e2 with e2
    injection e2 with e2 e3 _
    subst e2
    exact ⟨b, off, e1, hb, fun hf => by unfold Out at hf; omega, hc⟩⟩

/-- A list of slices of bytes that lies between the blocks lo and hi. -/
def NewR (lo hi : Nat) (w : World) (lv : Value) (ps : List (List UInt8)) : Prop :=
  ∃ A c vs, lv = .slice A ps.length c ∧ (A = none → c = 0) ∧ ps.length ≤ c ∧ HasF (Out lo hi) w A ps.length vs ∧ ManyF (Out lo hi) w vs ps
theorem NewR.nil (lo hi : Nat) (w : World) : NewR lo hi w (.slice none 0 0) [] := ⟨none, 0, [], rfl, fun _ => rfl, Nat.le_refl _, ⟨rfl, fun h => absurd h (by simp)⟩, ⟨rfl, fun i v p h => by simp at h⟩⟩
theorem NewR.of_scan {B : Nat} {w : World} {v : Value} {vs : List Value} {ps : List (List UInt8)} (h : w.ownsRow B 34 1 v ps.length vs) (hM : Many B w vs ps) : NewR B w.heap.size w v ps := by
  obtain ⟨A, c, rfl, _, hc⟩ := Has.of_own h
  exact ⟨A, c, vs, rfl, of_own_none h, hc, hasF_out h, hM.out⟩
theorem NewR.keep {lo hi : Nat} {F : Nat → Prop} {w w1 : World} {lv : Value} {ps : List (List UInt8)} (h : NewR lo hi w lv ps) (hf : Frm F w w1) (hF : ∀ b, F b → b < lo ∨ hi ≤ b) : NewR lo hi w1 lv ps := by
  obtain ⟨A, c, vs, e, h1, h2, h3, h4⟩ := h
  have hf' : Frm (Out lo hi) w w1 := hf.more fun b hb _ => hF b hb
  exact ⟨A, c, vs, e, h1, h2, h3.keep hf' fun b hb => .inl hb, h4.keep hf' fun b hb => .inl hb⟩
theorem NewR.mono {lo hi lo' hi' : Nat} {w : World} {lv : Value} {ps : List (List UInt8)} (h : NewR lo hi w lv ps) (h1 : lo' ≤ lo) (h2 : hi ≤ hi') : NewR lo' hi' w lv ps := by
  obtain ⟨A, c, vs, e, g1, g2, g3, g4⟩ := h
  have hx : ∀ b, Out lo' hi' b → Out lo hi b := fun b hb => by unfold Out at hb ⊢; omega
  exact ⟨A, c, vs, e, g1, g2, g3.less hx, g4.less hx⟩
theorem NewR.rows {lo hi : Nat} {w : World} {lv : Value} {ps : List (List UInt8)} (h : NewR lo hi w lv ps) : ∃ A c vs, lv = .slice A ps.length c ∧ Has w w.heap.size A ps.length vs ∧ ManyH w vs ps := by
  obtain ⟨A, c, vs, e, _, _, g3, g4⟩ := h
  exact ⟨A, c, vs, e, g3.has, g4.weak⟩
theorem frm_set (w : World) (b j : Nat) (v : Value) : Frm (fun x => x = b) w (w.setCell ⟨b, j, none⟩ v) := (Frm.refl (fun x => x = b) w).setCell (p := ⟨b, j, none⟩) (.inl rfl) v
theorem byte_zero (y : UInt8) : ((y.toNat : Int) == 0) = (y == 0) := by
  by_cases h : y = 0
  · subst h; rfl
  · rw [show (y == 0) = false by simpa using h, beq_eq_false_iff_ne]
    intro e
    exact h (UInt8.toNat_inj.1 (by show y.toNat = 0; omega))

theorem hasF_zeros {F : Nat → Prop} (w : World) (n : Nat) (hF : ¬ F w.heap.size) : HasF F (w.alloc (.cells (zeros n) 5)) (some ⟨w.heap.size, 0, none⟩) n ((List.replicate n (0 : UInt8)).map bv) := by
  have h := Has.laid w 5 (zeros n) (0, 0) n ((List.replicate n (0 : UInt8)).map bv) (by simp [zeros, bv]) (by simp)
  exact ⟨h.1, fun h0 => by
    obtain ⟨b, off, e, hb, hc⟩ := h.2 h0
    injection e with e
    injection e with e1 e2 _
    subst e1 e2
    exact ⟨_, _, rfl, by show w.heap.size < (w.heap.push _).size; simp, hF, hc⟩⟩
end

end Go.Proofs.Ytbcfjkfkkklgbaa
