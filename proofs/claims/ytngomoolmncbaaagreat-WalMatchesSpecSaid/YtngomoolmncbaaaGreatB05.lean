/-
Contract of the reference's Decode.
Contracts of Scan, of package frame and of its reference; lists of slices of bytes in memory.
What a walk of a statement is told of a slice of bytes that came in ('In8').
-/
import Derived.Test.YtngomoolmncbaaaGreatB04
import Derived.Deep.LoopGhost
import Derived.WalkMore
import Derived.Test.YtngomoolmncbaaaGreatB03
namespace Go.Proofs.YtngomoolmncbaaaGreat
section
open Go.RowKit

theorem take4 (l : List UInt8) (h : 4 ≤ l.length) : l.take 4 = [l.getD 0 0, l.getD 1 0, l.getD 2 0, l.getD 3 0] := by
  match l, h with
  | a :: b :: c :: d :: r, _ => rfl
theorem refWord {w : World} {B len b off : Nat} {l : List UInt8} (hA : Has w B (some ⟨b, off, none⟩) len (l.map bv)) (s cap : Nat) (hs : s + 4 ≤ len) :
    Calls Tryz.prog 97 #[.slice (some ⟨b, off + s, none⟩) 4 cap] w fun e w' => e = .returned (.tuple #[.int .u32 (nv (wordB (l.drop s))), .int .i64 0]) ∧ Below w.heap.size w w' := by
  have hl : l.length = len := by simpa using hA.1
  have h := hA.sub8 s 4 hs
  rw [take4 (l.drop s) (by simp; omega)] at h
  exact decodeFixed_any _ cap B _ _ _ _ w h

set_option maxRecDepth 20000 in
set_option maxHeartbeats 2000000 in
theorem refDecode_any (e q : W32) (A : Option Addr) (len cap B : Nat) (l : List UInt8) (w : World) (hA : Has w B A len (l.map bv)) (hlc : len ≤ cap) (hlen : len ≤ 1000000) (hB : B ≤ w.heap.size) :
    Calls Tryz.prog 85 #[.slice A len cap, .int .u32 (nv e), .int .u32 (nv q)] w (DecP w l e q) := by
  have hL : l.length = len := by simpa using hA.1
  by_cases h1 : len < 14
  · have HD : Hid (derr l e q = 5) := Lib.hid (derr_1 (by omega))
    have h1' : (len : Int) < 14 := by omega
    clear hL hA
    go_enter Tryz.func85, Tryz.ntmps85
    go_wp2
    go_ret3
    exact DecP.no 5 HD (by decide) (Below.refl _ _)
  · have h1' : ¬ (len : Int) < 14 := by omega
    have hl1 : ¬ l.length < 14 := by omega
    obtain ⟨b, off, rfl, _, _⟩ := hA.2 (by omega)
    have c0 : w.cell? ⟨b, off, none⟩ = some (.int .u8 ((l.getD 0 0).toNat : Int)) := cell_bt hA 0 (by omega)
    have c1 : w.cell? ⟨b, off + 1, none⟩ = some (.int .u8 ((l.getD 1 0).toNat : Int)) := cell_bt hA 1 (by omega)
    have k0 := byte_lt (l.getD 0 0)
    have k1 := byte_lt (l.getD 1 0)
    obtain ⟨n, hn⟩ : ∃ n, lenB l = n := ⟨_, rfl⟩
    have ho : ((l.getD 0 0).toNat : Int) + 256 * ((l.getD 1 0).toNat : Int) = (n : Int) := by rw [← hn]; unfold lenB; omega
    have hnb : n < 65536 := by have := lenB_lt l; omega
    have HN := Lib.hid hn
    obtain ⟨y0, hy0⟩ : ∃ v : Int, v = ((l.getD 0 0).toNat : Int) := ⟨_, rfl⟩
    obtain ⟨y1, hy1⟩ : ∃ v : Int, v = ((l.getD 1 0).toNat : Int) := ⟨_, rfl⟩
    have g00 : 0 ≤ y0 := by omega
    have g10 : 0 ≤ y1 := by omega
    rw [← hy0] at c0 k0
    rw [← hy1] at c1 k1
    rw [← hy0, ← hy1] at ho
    clear hy0 hy1
    have hlen0 : (0 : Int) < (len : Int) := by omega
    have hlen1 : (1 : Int) < (len : Int) := by omega
    by_cases h2 : 1024 < n
    · have HD : Hid (derr l e q = 3) := Lib.hid (derr_2 hl1 (by omega))
      have h2' : (1024 : Int) < (n : Int) := by omega
      clear hL hA hn
      go_enter Tryz.func85, Tryz.ntmps85
      go_wp2
      go_quiet (fail)
      go_wp2
      go_ret3
      exact DecP.no 3 HD (by decide) (below_drewN (Below.refl _ _) _)
    · have h2' : ¬ (1024 : Int) < (n : Int) := by omega
      by_cases h3 : len < 14 + n
      · have HD : Hid (derr l e q = 5) := Lib.hid (derr_3 hl1 (by omega) (by omega))
        have h3' : (len : Int) < 14 + (n : Int) := by omega
        clear hL hA hn
        go_enter Tryz.func85, Tryz.ntmps85
        go_wp2
        go_quiet (fail)
        go_wp2
        go_ret3
        exact DecP.no 5 HD (by decide) (below_drewN (Below.refl _ _) _)
      · have h3' : ¬ (len : Int) < 14 + (n : Int) := by omega
        obtain ⟨s, hs⟩ : ∃ s : Nat, s = 10 + n := ⟨_, rfl⟩
        obtain ⟨s4, hs4⟩ : ∃ s : Nat, s = 14 + n := ⟨_, rfl⟩
        have hs' : (10 : Int) + (n : Int) = (s : Int) := by omega
        have hs4' : (s : Int) + 4 = (s4 : Int) := by omega
        have HS4 : Hid ((s4 : Int) = 14 + (n : Int)) := Lib.hid (by omega)
        have hs1 : s ≤ len := by omega
        have hs2 : s ≤ cap := by omega
        have hs3 : s4 ≤ cap := by omega
        have hs5 : ¬ cap = s := by omega
        have hs6 : s ≤ s4 := by omega
        have hs7 : 10 ≤ s := by omega
        have hs8 : s - 10 = n := by omega
        have hs9 : s4 - s = 4 := by omega
        have hs10 : s4 ≤ len := by omega
        have hc2 : ¬ cap = 2 := by omega
        have hc6 : ¬ cap = 6 := by omega
        have hc10 : ¬ cap = 10 := by omega
        have hwS := fun v (hv : Has v B (some ⟨b, off, none⟩) len (l.map bv)) => refWord hv s (cap - s) (by omega)
        have hsumS := fun v (hv : Has v B (some ⟨b, off, none⟩) len (l.map bv)) => refSum_any (some ⟨b, off, none⟩) s cap B (l.take s) v (hv.head8 s hs1) (by omega)
        have hw2 := fun v (hv : Has v B (some ⟨b, off, none⟩) len (l.map bv)) => refWord hv 2 (cap - 2) (by omega)
        have hw6 := fun v (hv : Has v B (some ⟨b, off, none⟩) len (l.map bv)) => refWord hv 6 (cap - 6) (by omega)
        have d4 := fun h4 => derr_4 (e := e) (q := q) hl1 (show ¬ 1024 < lenB l by omega) (show ¬ l.length < 14 + lenB l by omega) h4
        have d5 := fun h4 h5 => derr_5 (e := e) (q := q) hl1 (show ¬ 1024 < lenB l by omega) (show ¬ l.length < 14 + lenB l by omega) h4 h5
        have d6 := fun h4 h5 h6 => derr_6 (e := e) (q := q) hl1 (show ¬ 1024 < lenB l by omega) (show ¬ l.length < 14 + lenB l by omega) h4 h5 h6
        rw [show 10 + lenB l = s by omega] at d4 d5 d6
        have D4 := Lib.hid d4
        have D5 := Lib.hid d5
        have D6 := Lib.hid d6
        have HA := Lib.hid hA
        have HLL := Lib.hid hL
        clear hL hA hn d4 d5 d6 hs hs4
        obtain ⟨wS, hwSe⟩ : ∃ x, x = wordB (l.drop s) := ⟨_, rfl⟩
        obtain ⟨cS, hcSe⟩ : ∃ x, x = crcSum (l.take s) := ⟨_, rfl⟩
        rw [← hwSe] at hwS D4 D5 D6
        rw [← hcSe] at hsumS D4 D5 D6
        clear hwSe hcSe
        by_cases h4 : wS = cS
        · subst h4
          obtain ⟨w2, hw2e⟩ : ∃ x, x = wordB (l.drop 2) := ⟨_, rfl⟩
          obtain ⟨w6, hw6e⟩ : ∃ x, x = wordB (l.drop 6) := ⟨_, rfl⟩
          rw [← hw2e] at hw2 D5 D6
          rw [← hw6e] at hw6 D5 D6
          clear hw2e hw6e
          obtain ⟨x, hx⟩ : ∃ x, x = nv wS := ⟨_, rfl⟩
          rw [← hx] at hwS hsumS
          clear hx D4
          by_cases h5 : w2 = e
          · subst h5
            by_cases h6 : w6 = q
            · subst h6
              have HD : Hid (derr l w2 w6 = 0) := Lib.hid (D6.out rfl rfl rfl)
              have HCL : Hid ((((l.drop 10).take n).map bv).length = n) := Lib.hid (by have := HLL.out; simp; omega)
              obtain ⟨x2, hx2⟩ : ∃ x, x = nv w2 := ⟨_, rfl⟩
              obtain ⟨x6, hx6⟩ : ∃ x, x = nv w6 := ⟨_, rfl⟩
              rw [← hx2] at hw2 ⊢
              rw [← hx6] at hw6 ⊢
              obtain ⟨i5, hi5, hz0, hz1, hz2⟩ := info_parts infoU8
              clear hx2 hx6 D5 D6
              go_enter Tryz.func85, Tryz.ntmps85
              go_wp2
              go_quiet (fail)
              go_wp2_with fail
              refine (hwS _ (HA.out.drewN _)).mono ?_
              rintro r w1 ⟨rfl, hb1'⟩
              have hb1 : Below w.heap.size w w1 := (below_drewN (Below.refl w.heap.size w) _).trans hb1'
              clear hb1'
              go_wp2_with fail
              refine (hsumS _ (HA.out.below' hb1 hB)).mono ?_
              rintro r w' ⟨rfl, rfl⟩
              go_wp2_with fail
              refine (hw2 _ (HA.out.below' hb1 hB)).mono ?_
              rintro r w2' ⟨rfl, hb2'⟩
              have hb2 := hb1.trans (hb2'.mono hb1.size)
              clear hb2'
              go_wp2_with fail
              refine (hw6 _ (HA.out.below' hb2 hB)).mono ?_
              rintro r w3 ⟨rfl, hb3'⟩
              have hb3 := hb2.trans (hb3'.mono hb2.size)
              clear hb3'
              go_wp2_with (at_builtin; refine wpList_app_has _ rfl _ _ 37 rfl w3.heap.size 5 i5 (.int .u8 0) 1 tyBs hi5 hz0 hz1 hz2 rfl _ _ _ (by exact rfl) (own_empty w3 5) _ n (cap - 10) _ (((l.drop 10).take n).map bv) (by first | exact rfl | (rw [← hs8]; exact rfl)) (by intro e; cases e) ((HA.out.below' hb3 hB).sub8 10 n (by omega) |>.alloc (Nat.le_trans hB hb3.size) _) (one_bytes _) (by unfold maxLen; omega) (by omega) ((Below.refl _ _).alloc (Nat.le_refl _) _) (Nat.le_refl _) ?_; intro v4 w4 hown4 hb4 _; rw [List.nil_append, Nat.zero_add] at hown4; obtain ⟨A4, c4, rfl, hh4, hc4⟩ := Has.of_own hown4)
              go_ret3
              exact DecP.yes n A4 c4 _ HD HN HS4.out (of_own_none hown4) hh4 hc4 ((Typ8.of_own hown4).mono hb3.size) (hb3.trans (hb4.mono hb3.size))
            · have HD : Hid (derr l w2 q = 8) := Lib.hid (D5.out rfl (.inr h6))
              have h6' : ¬ nv w6 = nv q := fun h => h6 (nv_inj h)
              have h6b : (nv w6 != nv q) = true := by simp [h6']
              clear D5 D6 h6
              go_enter Tryz.func85, Tryz.ntmps85
              go_wp2
              go_quiet (fail)
              go_wp2_with fail
              refine (hwS _ (HA.out.drewN _)).mono ?_
              rintro r w1 ⟨rfl, hb1'⟩
              have hb1 : Below w.heap.size w w1 := (below_drewN (Below.refl w.heap.size w) _).trans hb1'
              clear hb1'
              go_wp2_with fail
              refine (hsumS _ (HA.out.below' hb1 hB)).mono ?_
              rintro r w' ⟨rfl, rfl⟩
              go_wp2_with fail
              refine (hw2 _ (HA.out.below' hb1 hB)).mono ?_
              rintro r w2' ⟨rfl, hb2'⟩
              have hb2 := hb1.trans (hb2'.mono hb1.size)
              clear hb2'
              go_wp2_with fail
              refine (hw6 _ (HA.out.below' hb2 hB)).mono ?_
              rintro r w3 ⟨rfl, hb3'⟩
              have hb3 := hb2.trans (hb3'.mono hb2.size)
              clear hb3'
              go_wp2
              go_ret3
              exact DecP.no 8 HD (by decide) hb3
          · have HD : Hid (derr l e q = 8) := Lib.hid (D5.out rfl (.inl h5))
            have h5' : ¬ nv w2 = nv e := fun h => h5 (nv_inj h)
            have h5b : (nv w2 != nv e) = true := by simp [h5']
            clear D5 D6 h5
            go_enter Tryz.func85, Tryz.ntmps85
            go_wp2
            go_quiet (fail)
            go_wp2_with fail
            refine (hwS _ (HA.out.drewN _)).mono ?_
            rintro r w1 ⟨rfl, hb1'⟩
            have hb1 : Below w.heap.size w w1 := (below_drewN (Below.refl w.heap.size w) _).trans hb1'
            clear hb1'
            go_wp2_with fail
            refine (hsumS _ (HA.out.below' hb1 hB)).mono ?_
            rintro r w' ⟨rfl, rfl⟩
            go_wp2_with fail
            refine (hw2 _ (HA.out.below' hb1 hB)).mono ?_
            rintro r w2' ⟨rfl, hb2'⟩
            have hb2 := hb1.trans (hb2'.mono hb1.size)
            clear hb2'
            go_wp2_with fail
            refine (hw6 _ (HA.out.below' hb2 hB)).mono ?_
            rintro r w3 ⟨rfl, hb3'⟩
            have hb3 := hb2.trans (hb3'.mono hb2.size)
            clear hb3'
            go_wp2
            go_ret3
            exact DecP.no 8 HD (by decide) hb3
        · have HD : Hid (derr l e q = 7) := Lib.hid (D4.out h4)
          have h4' : ¬ nv wS = nv cS := fun h => h4 (nv_inj h)
          clear D4 D5 D6 h4
          obtain ⟨x, hx⟩ : ∃ x, x = nv wS := ⟨_, rfl⟩
          obtain ⟨y, hy⟩ : ∃ y, y = nv cS := ⟨_, rfl⟩
          rw [← hx] at hwS h4'
          rw [← hy] at hsumS h4'
          have h4b : (x != y) = true := by simp [h4']
          clear hx hy
          go_enter Tryz.func85, Tryz.ntmps85
          go_wp2
          go_quiet (fail)
          go_wp2_with fail
          refine (hwS _ (HA.out.drewN _)).mono ?_
          rintro r w1 ⟨rfl, hb1'⟩
          have hb1 : Below w.heap.size w w1 := (below_drewN (Below.refl w.heap.size w) _).trans hb1'
          clear hb1'
          go_wp2_with fail
          refine (hsumS _ (HA.out.below' hb1 hB)).mono ?_
          rintro r w' ⟨rfl, rfl⟩
          go_wp2
          go_ret3
          exact DecP.no 7 HD (by decide) hb1
end

section
open Go.RowKit

theorem tyBss : Tryz.prog.underlying 48 = some (.slice 37) := by kernel_rfl
theorem infoSl : (Tryz.prog.info? 37).map (fun i => (i.zero, i.size, i.bytes)) = some (some (.slice none 0 0), 1, 24) := by kernel_rfl

/-- A value that is a slice of these bytes. -/
def Slc (B : Nat) (w : World) (v : Value) (p : List UInt8) : Prop := ∃ A c, v = .slice A p.length c ∧ (A = none → c = 0) ∧ p.length ≤ c ∧ Has w w.heap.size A p.length (p.map bv) ∧ Typ8 B w A p.length
def Many (B : Nat) (w : World) (vs : List Value) (ps : List (List UInt8)) : Prop := vs.length = ps.length ∧ ∀ (i : Nat) (v : Value) (p : List UInt8), vs[i]? = some v → ps[i]? = some p → Slc B w v p
theorem Slc.mono {B B' : Nat} {w : World} {v : Value} {p : List UInt8} (h : Slc B w v p) (hB : B' ≤ B) : Slc B' w v p := by
  obtain ⟨A, c, e, h1, h2, h3, h4⟩ := h
  exact ⟨A, c, e, h1, h2, h3, h4.mono hB⟩
theorem Slc.below {B : Nat} {w w' : World} {v : Value} {p : List UInt8} (h : Slc B w v p) (hb : Below w.heap.size w w') : Slc B w' v p := by
  obtain ⟨A, c, e, h1, h2, h3, h4⟩ := h
  exact ⟨A, c, e, h1, h2, (h3.below hb).more hb.size, h4.below hb⟩
theorem Many.below {B : Nat} {w w' : World} {vs : List Value} {ps : List (List UInt8)} (h : Many B w vs ps) (hb : Below w.heap.size w w') : Many B w' vs ps := ⟨h.1, fun i v p h1 h2 => (h.2 i v p h1 h2).below hb⟩
theorem Many.nil (B : Nat) (w : World) : Many B w [] [] := ⟨rfl, fun i v p h => by simp at h⟩
theorem Many.snoc {B : Nat} {w : World} {vs : List Value} {ps : List (List UInt8)} (h : Many B w vs ps) {v : Value} {p : List UInt8} (hv : Slc B w v p) : Many B w (vs ++ [v]) (ps ++ [p]) := by
  refine ⟨by simp [h.1], fun i v' p' h1 h2 => ?_⟩
  by_cases hi : i < vs.length
  · rw [List.getElem?_append_left hi] at h1
    rw [List.getElem?_append_left (by rw [← h.1]; exact hi)] at h2
    exact h.2 i v' p' h1 h2
  · rw [List.getElem?_append_right (by omega)] at h1
    rw [List.getElem?_append_right (by rw [← h.1]; omega), ← h.1] at h2
    match hj : i - vs.length, h1, h2 with
    | 0, h1, h2 =>
      simp at h1 h2
      subst h1 h2
      exact hv
    | j + 1, h1, _ => simp at h1
/-- A row of slices grew: the slices of bytes stay. -/
theorem Slc.grown {B : Nat} {w w' : World} {base m : Nat} {o v : Value} {xs : List Value} {p : List UInt8} (h : Slc B w v p) (hown : w.ownsRow base 37 1 o m xs) (hg : w.grownBy w' o.ownBlock) : Slc B w' v p := by
  obtain ⟨A, c, e, h1, h2, h3, h4⟩ := h
  have hne : ∀ (b : Nat) (cs : Array Value) (fr : Nat × Nat), w.heap[b]? = some (.cells cs 5 fr) → w'.heap[b]? = w.heap[b]? := by
    intro b cs fr hb
    refine hg.block b (Array.getElem?_eq_some_iff.1 hb).1 ?_
    rcases hown.2 with ⟨rfl, _⟩ | ⟨g, cap, cur, rfl, _, hgg, _⟩
    · simp [Value.ownBlock]
    · intro he
      simp [Value.ownBlock] at he
      subst he
      rw [hgg] at hb
      injection hb with hb
      injection hb with _ hb _
      exact absurd hb (by decide)
  refine ⟨A, c, e, h1, h2, ⟨h3.1, fun h0 => ?_⟩, fun h0 => ?_⟩
  · obtain ⟨b, off, e1, hb, hc⟩ := h3.2 h0
    obtain ⟨b', off', cs, fr, e2, hl, hh⟩ := h4 h0
    rw [e1] at e2
    injection e2 with e2
    injection e2 with e2 e3 _
    subst e2 e3
    exact ⟨b, off, e1, Nat.lt_of_lt_of_le hb hg.size, fun j hj => (World.cell?_of_block (hne b cs fr hh)).trans (hc j hj)⟩
  · obtain ⟨b', off', cs, fr, e2, hl, hh⟩ := h4 h0
    exact ⟨b', off', cs, fr, e2, hl, (hne b' cs fr hh).trans hh⟩
theorem Many.grown {B : Nat} {w w' : World} {base m : Nat} {o : Value} {xs vs : List Value} {ps : List (List UInt8)} (h : Many B w vs ps) (hown : w.ownsRow base 37 1 o m xs) (hg : w.grownBy w' o.ownBlock) : Many B w' vs ps :=
  ⟨h.1, fun i v p h1 h2 => (h.2 i v p h1 h2).grown hown hg⟩

/-- What Scan answers, and what is left in memory. -/
def ScanP (w : World) (l : List UInt8) (e : W32) (r : Ending) (w' : World) : Prop :=
  (∃ v vs, r = .returned (.tuple #[v, .int .i64 ((scanB (l.length + 1) l e 0).2 : Int)]) ∧ w'.ownsRow w.heap.size 37 1 v (scanB (l.length + 1) l e 0).1.length vs ∧ Many w.heap.size w' vs (scanB (l.length + 1) l e 0).1) ∧ Below w.heap.size w w'

/-- How far a scan has come: f rounds at most are to come. -/
def At (l : List UInt8) (e : W32) (f n : Nat) (ps : List (List UInt8)) : Prop :=
  n ≤ l.length ∧ 14 * ps.length ≤ n ∧ l.length < n + f ∧ scanB (l.length + 1) l e 0 = (ps ++ (scanB f (l.drop n) e ps.length).1, n + (scanB f (l.drop n) e ps.length).2)
theorem At.start (l : List UInt8) (e : W32) : At l e (l.length + 1) 0 [] := ⟨Nat.zero_le _, by simp, by omega, by simp⟩
theorem At.next {l : List UInt8} {e : W32} {f n : Nat} {ps : List (List UInt8)} (h : At l e f n ps) (hd : derr (l.drop n) e (sq ps.length) = 0) :
    ∃ g, f = g + 1 ∧ At l e g (n + dn (l.drop n) e (sq ps.length)) (ps ++ [dpl (l.drop n) e (sq ps.length)]) := by
  obtain ⟨h1, h2, h3, h4⟩ := h
  have hf := dn_fit hd
  rw [List.length_drop] at hf
  match f, h3, h4 with
  | 0, h3, _ => omega
  | g + 1, h3, h4 =>
    refine ⟨g, rfl, by omega, by simp; omega, by omega, ?_⟩
    rw [h4, scanB_yes hd, List.drop_drop]
    simp [Nat.add_assoc]
theorem At.stop {l : List UInt8} {e : W32} {f n : Nat} {ps : List (List UInt8)} (h : At l e f n ps) (hd : derr (l.drop n) e (sq ps.length) ≠ 0) : scanB (l.length + 1) l e 0 = (ps, n) := by
  rw [h.2.2.2, scanB_no hd]
  simp
theorem sq_nv (k : Nat) (hk : k < 4294967296) : nv (sq k) = (k : Int) := by
  have h : ((sq k).toNat : Int) = (k : Int) := by simp [sq]; omega
  rw [← h]
  unfold nv
  rfl
theorem Has.from8 {w : World} {B n : Nat} {A : Option Addr} {l : List UInt8} (h : Has w B A n (l.map bv)) : l.length = n := by simpa using h.1

theorem DecP.got {w w' : World} {l : List UInt8} {e q : W32} {r : Ending} (h : DecP w l e q r w') (hd : derr l e q = 0) : ∃ v, r = .returned (.tuple #[v, .int .i64 (dn l e q : Int), .int .i64 0]) ∧ v.oneCell' = true ∧ Slc w.heap.size w' v (dpl l e q) ∧ Below w.heap.size w w' := by
  obtain ⟨⟨P, c, rfl, h1, h2, h3, h4⟩, hb⟩ := h
  rw [hd]
  exact ⟨_, rfl, rfl, ⟨P, c, rfl, h2, h3, h1, h4⟩, hb⟩
theorem DecP.bad {w w' : World} {l : List UInt8} {e q : W32} {r : Ending} (h : DecP w l e q r w') (hd : derr l e q ≠ 0) : ∃ (v : Value) (x y : Int), r = .returned (.tuple #[v, .int .i64 y, .int .i64 x]) ∧ x ≠ 0 ∧ Below w.heap.size w w' := by
  obtain ⟨⟨P, c, rfl, h1, h2, h3, h4⟩, hb⟩ := h
  exact ⟨_, _, _, rfl, by omega, hb⟩

set_option maxHeartbeats 2000000 in
theorem scan_any (e : W32) (b off len cap B : Nat) (l : List UInt8) (w : World) (hA : Has w B (some ⟨b, off, none⟩) len (l.map bv)) (hlc : len ≤ cap) (hlen : len ≤ 1000000) (hB : B ≤ w.heap.size) :
    Calls Tryz.prog 53 #[.slice (some ⟨b, off, none⟩) len cap, .int .u32 (nv e)] w (ScanP w l e) := by
  obtain ⟨i9, hi9, hz0, hz1, hz2⟩ := info_parts infoSl
  have HL := Lib.hid hA.from8
  have HA := Lib.hid hA
  clear hA
  go_enter Tryz.func53, Tryz.ntmps53
  go_wp2
  go_step3
  go_wp2
  go_step3
  go_wp2
  go_loopg [6, 7, 8] (l.length + 1) (fun g v x y wr => ∃ (n : Nat) (ps : List (List UInt8)) (vs : List Value), n ≤ len ∧ ps.length ≤ 1000000 ∧ x = .int .i64 n ∧ y = .int .u32 ps.length ∧ Hid (At l e g n ps) ∧ Hid (Many w.heap.size wr vs ps) ∧
      wr.ownsRow w.heap.size 37 1 v ps.length vs ∧ Below w.heap.size w wr)
  case atStart => exact ⟨0, [], [], Nat.zero_le _, by simp, rfl, rfl, At.start l e, Many.nil _ _, World.ownsRow_nil _ _ _ _, Below.refl _ _⟩
  case round =>
    obtain ⟨n, ps, vs, hn, hps, rfl, rfl, HAT, HM, hown, hb⟩ := hrel
    obtain ⟨k, hk⟩ : ∃ k, k = ps.length := ⟨_, rfl⟩
    have HK := Lib.hid hk
    rw [← hk] at hown hps ⊢
    clear hk
    have hn2 : n ≤ cap := by omega
    have HBw := Lib.hid hb
    by_cases hcn : cap = n
    · obtain rfl : n = len := by omega
      subst hcn
      have hz : cap - cap = 0 := Nat.sub_self cap
      have hnil : l.drop cap = [] := List.drop_of_length_le (by rw [HL.out]; omega)
      have hd : derr (l.drop cap) e (sq k) ≠ 0 := by rw [hnil, derr_1 (by decide)]; decide
      have hdec := decode_any e (sq k) (some ⟨b, off, none⟩) 0 0 0 (l.drop cap) wr (by rw [hnil]; exact Has.nil _ _ _) (Nat.le_refl _) (by omega) (Nat.zero_le _)
      rw [sq_nv k (by omega)] at hdec
      have HST := Lib.hid (At.stop HAT.out (by rw [← HK.out]; exact hd))
      have HD := Lib.hid hd
      clear hd hnil hz
      go_wp2_with fail
      refine hdec.mono ?_
      rintro r w1 hr
      obtain ⟨v1, x, y, rfl, hx, hb1⟩ := hr.bad HD.out
      have hx' : (x == 0) = false := by simp [hx]
      replace hown := own_below hown hb1
      have HMb := Lib.hid (HM.out.below hb1)
      replace hb := hb.trans (hb1.mono hb.size)
      go_wp2
      rw [Exit.noGoto_ret]
      go_ret2
      refine ⟨⟨u6, vs, ?_, ?_, ?_⟩, hb⟩
      · rw [HST.out]; rfl
      · rw [HST.out]
        show w1.ownsRow _ _ _ _ ps.length _
        rw [← HK.out]; exact hown
      · rw [HST.out]; exact HMb.out
    · have hdec := decode_any e (sq k) (some ⟨b, off + n, none⟩) (len - n) (cap - n) B (l.drop n) wr ((HA.out.below' hb hB).tail8 n hn) (by omega) (by omega) (Nat.le_trans hB hb.size)
      rw [sq_nv k (by omega)] at hdec
      by_cases hd : derr (l.drop n) e (sq k) = 0
      · have HD := Lib.hid hd
        obtain ⟨d, hdn⟩ : ∃ d, d = dn (l.drop n) e (sq k) := ⟨_, rfl⟩
        have hdb : n + d ≤ len := by have := (dn_fit hd).2.1; rw [List.length_drop, HL.out] at this; omega
        have hdp := (dn_fit hd).1
        have HNX := Lib.hid (At.next HAT.out (by rw [← HK.out]; exact hd))
        rw [← HK.out, ← hdn] at HNX
        have hk2 : 14 * (k + 1) ≤ n + d := by have := HAT.out.2.1; rw [← HK.out] at this; omega
        have HDN := Lib.hid hdn
        clear hd hdn hdp
        go_wp2_with fail
        refine hdec.mono ?_
        rintro r w1 hr
        obtain ⟨v1, rfl, hv1, HS, hb1⟩ := hr.got HD.out
        rw [← HDN.out]
        replace hown := own_below hown hb1
        have HMb := Lib.hid ((HM.out.below hb1).snoc (HS.mono HBw.out.size))
        obtain ⟨A1, c1, rfl, _, _, _, _⟩ := HS
        obtain ⟨p1, hp1⟩ : ∃ p, p = dpl (l.drop n) e (sq k) := ⟨_, rfl⟩
        rw [← hp1] at HMb HNX ⊢
        clear hp1 hv1
        have HV := Lib.hid hown
        replace hb := hb.trans (hb1.mono hb.size)
        clear hr hdec
        go_wp2_with (at_builtin; refine wpList_app_one w1 rfl _ _ 48 rfl w.heap.size 37 i9 (.slice none 0 0) 24 tyBss hi9 hz0 hz1 hz2 rfl _ (by exact rfl) _ _ _ (by exact rfl) hown (by exact rfl) (by unfold maxLen; omega) (by omega) hb (Nat.le_refl _) ?_; intro v2 w2 hown2 hb2 hgr)
        go_roundg (gk - 1)
        case rel =>
          obtain ⟨g, hg, hat⟩ := HNX.out
          refine ⟨n + d, ps ++ [p1], vs ++ [.slice A1 p1.length c1], hdb, by simp; have := HK.out; omega, by go_num, ?_, ?_, ?_, ?_, hb2⟩
          · simp only [List.length_append, List.length_singleton, ← HK.out]; go_num
          · rw [hg]; exact hat
          · exact (HMb.out.grown HV.out hgr)
          · simp only [List.length_append, List.length_singleton, ← HK.out]; exact hown2
        case measure => obtain ⟨g, hg, _⟩ := HNX.out; omega
      · have HST := Lib.hid (At.stop HAT.out (by rw [← HK.out]; exact hd))
        have HD := Lib.hid hd
        clear hd
        go_wp2_with fail
        refine hdec.mono ?_
        rintro r w1 hr
        obtain ⟨v1, x, y, rfl, hx, hb1⟩ := hr.bad HD.out
        have hx' : (x == 0) = false := by simp [hx]
        replace hown := own_below hown hb1
        have HMb := Lib.hid (HM.out.below hb1)
        replace hb := hb.trans (hb1.mono hb.size)
        go_wp2
        rw [Exit.noGoto_ret]
        go_ret2
        refine ⟨⟨u6, vs, ?_, ?_, ?_⟩, hb⟩
        · rw [HST.out]; rfl
        · rw [HST.out]
          show w1.ownsRow _ _ _ _ ps.length _
          rw [← HK.out]; exact hown
        · rw [HST.out]; exact HMb.out

set_option maxHeartbeats 2000000 in
theorem refScan_any (e : W32) (b off len cap B : Nat) (l : List UInt8) (w : World) (hA : Has w B (some ⟨b, off, none⟩) len (l.map bv)) (hlc : len ≤ cap) (hlen : len ≤ 1000000) (hB : B ≤ w.heap.size) :
    Calls Tryz.prog 57 #[.slice (some ⟨b, off, none⟩) len cap, .int .u32 (nv e)] w (ScanP w l e) := by
  obtain ⟨i9, hi9, hz0, hz1, hz2⟩ := info_parts infoSl
  have HL := Lib.hid hA.from8
  have HA := Lib.hid hA
  clear hA
  go_enter Tryz.func57, Tryz.ntmps57
  go_wp2
  go_loopg [6, 7] (l.length + 1) (fun g v x wr => ∃ (n : Nat) (ps : List (List UInt8)) (vs : List Value), n ≤ len ∧ ps.length ≤ 1000000 ∧ x = .int .i64 n ∧ Hid (At l e g n ps) ∧ Hid (Many w.heap.size wr vs ps) ∧
      wr.ownsRow w.heap.size 37 1 v ps.length vs ∧ Below w.heap.size w wr)
  case atStart => exact ⟨0, [], [], Nat.zero_le _, by simp, rfl, At.start l e, Many.nil _ _, World.ownsRow_nil _ _ _ _, Below.refl _ _⟩
  case round =>
    obtain ⟨n, ps, vs, hn, hps, rfl, HAT, HM, hown, hb⟩ := hrel
    obtain ⟨k, hk⟩ : ∃ k, k = ps.length := ⟨_, rfl⟩
    have HK := Lib.hid hk
    rw [← hk] at hown hps
    clear hk
    have hn2 : n ≤ cap := by omega
    have HBw := Lib.hid hb
    obtain ⟨Ao, co, rfl, _, _⟩ := Has.of_own hown
    by_cases hcn : cap = n
    · obtain rfl : n = len := by omega
      subst hcn
      have hz : cap - cap = 0 := Nat.sub_self cap
      have hnil : l.drop cap = [] := List.drop_of_length_le (by rw [HL.out]; omega)
      have hd : derr (l.drop cap) e (sq k) ≠ 0 := by rw [hnil, derr_1 (by decide)]; decide
      have hdec := refDecode_any e (sq k) (some ⟨b, off, none⟩) 0 0 0 (l.drop cap) wr (by rw [hnil]; exact Has.nil _ _ _) (Nat.le_refl _) (by omega) (Nat.zero_le _)
      rw [sq_nv k (by omega)] at hdec
      have HST := Lib.hid (At.stop HAT.out (by rw [← HK.out]; exact hd))
      have HD := Lib.hid hd
      clear hd hnil hz
      go_wp2_with fail
      refine hdec.mono ?_
      rintro r w1 hr
      obtain ⟨v1, x, y, rfl, hx, hb1⟩ := hr.bad HD.out
      have hx' : (x != 0) = true := by simp [hx]
      replace hown := own_below hown hb1
      have HMb := Lib.hid (HM.out.below hb1)
      replace hb := hb.trans (hb1.mono hb.size)
      go_wp2
      go_ret2
      refine ⟨⟨.slice Ao k co, vs, ?_, ?_, ?_⟩, hb⟩
      · rw [HST.out]; rfl
      · rw [HST.out]
        show w1.ownsRow _ _ _ _ ps.length _
        rw [← HK.out]; exact hown
      · rw [HST.out]; exact HMb.out
    · have hdec := refDecode_any e (sq k) (some ⟨b, off + n, none⟩) (len - n) (cap - n) B (l.drop n) wr ((HA.out.below' hb hB).tail8 n hn) (by omega) (by omega) (Nat.le_trans hB hb.size)
      rw [sq_nv k (by omega)] at hdec
      by_cases hd : derr (l.drop n) e (sq k) = 0
      · have HD := Lib.hid hd
        obtain ⟨d, hdn⟩ : ∃ d, d = dn (l.drop n) e (sq k) := ⟨_, rfl⟩
        have hdb : n + d ≤ len := by have := (dn_fit hd).2.1; rw [List.length_drop, HL.out] at this; omega
        have hdp := (dn_fit hd).1
        have HNX := Lib.hid (At.next HAT.out (by rw [← HK.out]; exact hd))
        rw [← HK.out, ← hdn] at HNX
        have hk2 : 14 * (k + 1) ≤ n + d := by have := HAT.out.2.1; rw [← HK.out] at this; omega
        have HDN := Lib.hid hdn
        clear hd hdn hdp
        go_wp2_with fail
        refine hdec.mono ?_
        rintro r w1 hr
        obtain ⟨v1, rfl, hv1, HS, hb1⟩ := hr.got HD.out
        rw [← HDN.out]
        replace hown := own_below hown hb1
        have HMb := Lib.hid ((HM.out.below hb1).snoc (HS.mono HBw.out.size))
        obtain ⟨A1, c1, rfl, _, _, _, _⟩ := HS
        obtain ⟨p1, hp1⟩ : ∃ p, p = dpl (l.drop n) e (sq k) := ⟨_, rfl⟩
        rw [← hp1] at HMb HNX ⊢
        clear hp1 hv1
        have HV := Lib.hid hown
        replace hb := hb.trans (hb1.mono hb.size)
        clear hr hdec
        go_wp2_with (at_builtin; refine wpList_app_one w1 rfl _ _ 48 rfl w.heap.size 37 i9 (.slice none 0 0) 24 tyBss hi9 hz0 hz1 hz2 rfl _ (by exact rfl) _ _ _ (by exact rfl) hown (by exact rfl) (by unfold maxLen; omega) (by omega) hb (Nat.le_refl _) ?_; intro v2 w2 hown2 hb2 hgr)
        go_roundg (gk - 1)
        case rel =>
          obtain ⟨g, hg, hat⟩ := HNX.out
          refine ⟨n + d, ps ++ [p1], vs ++ [.slice A1 p1.length c1], hdb, by simp; have := HK.out; omega, by go_num, ?_, ?_, ?_, hb2⟩
          · rw [hg]; exact hat
          · exact (HMb.out.grown HV.out hgr)
          · simp only [List.length_append, List.length_singleton, ← HK.out]; exact hown2
        case measure => obtain ⟨g, hg, _⟩ := HNX.out; omega
      · have HST := Lib.hid (At.stop HAT.out (by rw [← HK.out]; exact hd))
        have HD := Lib.hid hd
        clear hd
        go_wp2_with fail
        refine hdec.mono ?_
        rintro r w1 hr
        obtain ⟨v1, x, y, rfl, hx, hb1⟩ := hr.bad HD.out
        have hx' : (x != 0) = true := by simp [hx]
        replace hown := own_below hown hb1
        have HMb := Lib.hid (HM.out.below hb1)
        replace hb := hb.trans (hb1.mono hb.size)
        go_wp2
        go_ret2
        refine ⟨⟨.slice Ao k co, vs, ?_, ?_, ?_⟩, hb⟩
        · rw [HST.out]; rfl
        · rw [HST.out]
          show w1.ownsRow _ _ _ _ ps.length _
          rw [← HK.out]; exact hown
        · rw [HST.out]; exact HMb.out

set_option maxHeartbeats 2000000 in
theorem scan_zero (e : W32) (A : Option Addr) (cap : Nat) (w : World) (hcap : A = none → cap = 0) :
    Calls Tryz.prog 53 #[.slice A 0 cap, .int .u32 (nv e)] w (ScanP w [] e) := by
  have hd : derr [] e (sq 0) ≠ 0 := by rw [derr_1 (by decide)]; decide
  have hdec := fun (X : Option Addr) (c : Nat) => decode_any e (sq 0) X 0 c 0 [] w (Has.nil _ _ _) (Nat.zero_le _) (by omega) (Nat.zero_le _)
  rw [sq_nv 0 (by omega)] at hdec
  have hdec : ∀ (X : Option Addr) (c : Nat), Calls Tryz.prog 83 #[.slice X 0 c, .int .u32 (nv e), .int .u32 0] w (DecP w [] e (sq 0)) := hdec
  have HST := Lib.hid (show scanB 1 [] e 0 = ([], 0) from scanB_no hd)
  have HD := Lib.hid hd
  clear hd
  go_enter Tryz.func53, Tryz.ntmps53
  go_wp2
  go_step3
  go_wp2
  go_step3
  go_wp2
  go_loopg [6, 7, 8] 0 (fun g v x y wr => wr = w ∧ v = .slice none 0 0 ∧ x = .int .i64 0 ∧ y = .int .u32 0)
  case atStart => exact ⟨rfl, rfl, rfl, rfl⟩
  case round =>
    obtain ⟨rfl, rfl, rfl, rfl⟩ := hrel
    have hfin : ∀ w1, Below wr.heap.size wr w1 → ScanP wr [] e (.returned (.tuple #[.slice none 0 0, .int .i64 0])) w1 := fun w1 hb => by
      refine ⟨⟨.slice none 0 0, [], ?_, ?_, ?_⟩, hb⟩
      · show _ = Ending.returned (.tuple #[_, .int .i64 ((scanB 1 [] e 0).2 : Int)])
        rw [HST.out]; rfl
      · show w1.ownsRow _ _ _ _ (scanB 1 [] e 0).1.length _
        rw [HST.out]; exact World.ownsRow_nil _ _ _ _
      · show Many wr.heap.size w1 [] (scanB 1 [] e 0).1
        rw [HST.out]; exact Many.nil _ _
    by_cases hc0 : cap = 0
    · subst hc0
      go_wp2_with fail
      refine (hdec _ _).mono ?_
      rintro r w1 hr
      obtain ⟨v1, x, y, rfl, hx, hb1⟩ := hr.bad HD.out
      have hx' : (x == 0) = false := by simp [hx]
      go_wp2
      rw [Exit.noGoto_ret]
      go_ret2
      exact hfin _ hb1
    · obtain ⟨ad, rfl⟩ : ∃ ad, A = some ad := by
        cases A with
        | none => exact absurd (hcap rfl) hc0
        | some ad => exact ⟨ad, rfl⟩
      clear hcap
      go_wp2_with fail
      refine (hdec _ _).mono ?_
      rintro r w1 hr
      obtain ⟨v1, x, y, rfl, hx, hb1⟩ := hr.bad HD.out
      have hx' : (x == 0) = false := by simp [hx]
      go_wp2
      rw [Exit.noGoto_ret]
      go_ret2
      exact hfin _ hb1

set_option maxHeartbeats 2000000 in
theorem refScan_zero (e : W32) (A : Option Addr) (cap : Nat) (w : World) (hcap : A = none → cap = 0) :
    Calls Tryz.prog 57 #[.slice A 0 cap, .int .u32 (nv e)] w (ScanP w [] e) := by
  have hd : derr [] e (sq 0) ≠ 0 := by rw [derr_1 (by decide)]; decide
  have hdec := fun (X : Option Addr) (c : Nat) => refDecode_any e (sq 0) X 0 c 0 [] w (Has.nil _ _ _) (Nat.zero_le _) (by omega) (Nat.zero_le _)
  rw [sq_nv 0 (by omega)] at hdec
  have hdec : ∀ (X : Option Addr) (c : Nat), Calls Tryz.prog 85 #[.slice X 0 c, .int .u32 (nv e), .int .u32 0] w (DecP w [] e (sq 0)) := hdec
  have HST := Lib.hid (show scanB 1 [] e 0 = ([], 0) from scanB_no hd)
  have HD := Lib.hid hd
  clear hd
  go_enter Tryz.func57, Tryz.ntmps57
  go_wp2
  go_loopg [6, 7] 0 (fun g v x wr => wr = w ∧ v = .slice none 0 0 ∧ x = .int .i64 0)
  case atStart => exact ⟨rfl, rfl, rfl⟩
  case round =>
    obtain ⟨rfl, rfl, rfl⟩ := hrel
    have hfin : ∀ w1, Below wr.heap.size wr w1 → ScanP wr [] e (.returned (.tuple #[.slice none 0 0, .int .i64 0])) w1 := fun w1 hb => by
      refine ⟨⟨.slice none 0 0, [], ?_, ?_, ?_⟩, hb⟩
      · show _ = Ending.returned (.tuple #[_, .int .i64 ((scanB 1 [] e 0).2 : Int)])
        rw [HST.out]; rfl
      · show w1.ownsRow _ _ _ _ (scanB 1 [] e 0).1.length _
        rw [HST.out]; exact World.ownsRow_nil _ _ _ _
      · show Many wr.heap.size w1 [] (scanB 1 [] e 0).1
        rw [HST.out]; exact Many.nil _ _
    by_cases hc0 : cap = 0
    · subst hc0
      go_wp2_with fail
      refine (hdec _ _).mono ?_
      rintro r w1 hr
      obtain ⟨v1, x, y, rfl, hx, hb1⟩ := hr.bad HD.out
      have hx' : (x != 0) = true := by simp [hx]
      go_wp2
      go_ret2
      exact hfin _ hb1
    · obtain ⟨ad, rfl⟩ : ∃ ad, A = some ad := by
        cases A with
        | none => exact absurd (hcap rfl) hc0
        | some ad => exact ⟨ad, rfl⟩
      clear hcap
      go_wp2_with fail
      refine (hdec _ _).mono ?_
      rintro r w1 hr
      obtain ⟨v1, x, y, rfl, hx, hb1⟩ := hr.bad HD.out
      have hx' : (x != 0) = true := by simp [hx]
      go_wp2
      go_ret2
      exact hfin _ hb1

theorem scan_all (e : W32) (A : Option Addr) (len cap B : Nat) (l : List UInt8) (w : World) (hA : Has w B A len (l.map bv)) (hcap : A = none → cap = 0) (hlc : len ≤ cap) (hlen : len ≤ 1000000) (hB : B ≤ w.heap.size) :
    Calls Tryz.prog 53 #[.slice A len cap, .int .u32 (nv e)] w (ScanP w l e) := by
  by_cases h0 : len = 0
  · subst h0
    have hl : l = [] := List.eq_nil_of_length_eq_zero hA.from8
    subst hl
    exact scan_zero e A cap w hcap
  · obtain ⟨b, off, rfl, _⟩ := hA.2 (by omega)
    exact scan_any e b off len cap B l w hA hlc hlen hB
theorem refScan_all (e : W32) (A : Option Addr) (len cap B : Nat) (l : List UInt8) (w : World) (hA : Has w B A len (l.map bv)) (hcap : A = none → cap = 0) (hlc : len ≤ cap) (hlen : len ≤ 1000000) (hB : B ≤ w.heap.size) :
    Calls Tryz.prog 57 #[.slice A len cap, .int .u32 (nv e)] w (ScanP w l e) := by
  by_cases h0 : len = 0
  · subst h0
    have hl : l = [] := List.eq_nil_of_length_eq_zero hA.from8
    subst hl
    exact refScan_zero e A cap w hcap
  · obtain ⟨b, off, rfl, _⟩ := hA.2 (by omega)
    exact refScan_any e b off len cap B l w hA hlc hlen hB
end

section
open Go.RowKit


/-- What a walk is told of a slice of bytes that came in. -/
def In8 (w : World) (a : Option Addr) (len cap : Nat) (zs : List Int) : Prop :=
  (a = none ∧ len = 0 ∧ cap = 0 ∧ zs = []) ∨
  ∃ x, a = some x ∧ len ≤ cap ∧ cap ≤ maxLen ∧ zs.length = cap ∧ (∀ i, i < zs.length → w.cell? (x.add i) = some (.int .u8 (zs.getD i 0))) ∧ ∀ n ∈ zs, (Lit.int .u8 n).wf = true
theorem eqL_refl (l : List UInt8) : eqL l l = true := by simp [eqL]
theorem map_append_bv (l m : List UInt8) : l.map bv ++ m.map bv = (l ++ m).map bv := by rw [List.map_append]

/-- The room of a row that a value owns is no more than the machine's. -/
theorem own_cap {w : World} {base e n : Nat} {v : Value} {xs : List Value} (h : w.ownsRow base e 1 v n xs) : ∀ A m c, v = .slice A m c → c ≤ maxLen := by
  rintro A m c rfl
  rcases h.2 with ⟨he, _⟩ | ⟨g, cap, cur, he, _, _, _, hc, _⟩
  · injection he with _ _ he; subst he; exact Nat.zero_le _
  · injection he with _ _ he; subst he; exact hc

/-- A row that a value owns and that is not empty, read as a list. -/
theorem has_own {w : World} {base e n : Nat} {v : Value} {xs : List Value} (h : w.ownsRow base e 1 v n xs) (hn : 0 < n) : ∃ g c, v = .slice (some ⟨g, 0, none⟩) n c ∧ Has w w.heap.size (some ⟨g, 0, none⟩) n xs ∧ n ≤ c := by
  obtain ⟨A, c, rfl, hh, hc⟩ := Has.of_own h
  obtain ⟨g, cap, he, _⟩ := owns_cell h hn
  injection he with h1 h2 h3
  subst h1
  exact ⟨g, c, rfl, hh, hc⟩
end

end Go.Proofs.YtngomoolmncbaaaGreat
