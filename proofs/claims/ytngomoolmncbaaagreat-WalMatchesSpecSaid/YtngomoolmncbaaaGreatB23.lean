/-
Both logs in memory, apart from both disks; the contract of same.
The fixed example of the statements of layer 8 (awake) holds.
Contract of the helper SmallFaults of the statements (package hstsstorekeep).
The operations of a script of layer 8 that came in, read; contracts of its small.
-/
import Derived.Test.YtngomoolmncbaaaGreatB17
import Derived.Test.YtngomoolmncbaaaGreatB18
import Derived.Test.YtngomoolmncbaaaGreatB22
import Derived.Test.YtngomoolmncbaaaGreatB03
import Derived.Test.YtngomoolmncbaaaGreatB11
namespace Go.Proofs.YtngomoolmncbaaaGreat
section
open Go.RowKit

/-- The program's log L at block b1, the reference's at b2. -/
structure Lgs (w x : World) (F1 F2 : Nat → Prop) (a1 a2 n b1 b2 : Nat) (L : Lg) : Prop where
  p : PL x b1 a1 L
  r : RL x b2 a2 L
  ok : L.Ok n
  n11 : ¬ F1 b1
  n21 : ¬ F2 b1
  n12 : ¬ F1 b2
  n22 : ¬ F2 b2
  ne : b1 ≠ b2
  lo1 : w.heap.size ≤ b1
  lo2 : w.heap.size ≤ b2
/-- Both logs are there, or none. -/
def Both (w x : World) (F1 F2 : Nat → Prop) (a1 a2 n : Nat) (lv mv : Value) : Prop :=
  (lv = .pointer none ∧ mv = .pointer none) ∨ ∃ b1 b2 L, lv = .pointer (some ⟨b1, 0, none⟩) ∧ mv = .pointer (some ⟨b2, 0, none⟩) ∧ Lgs w x F1 F2 a1 a2 n b1 b2 L
section
variable {w x y : World} {F1 F2 G1 G2 F : Nat → Prop} {a1 a2 n b1 b2 : Nat} {L : Lg} {lv mv : Value} {S S' : Dsk}
theorem RL.lt (h : RL x b2 a2 L) : b2 < x.heap.size := lt_of_some h
/-- A call that turns only blocks of F, none of them a log's. -/
theorem Lgs.keep (h : Lgs w x F1 F2 a1 a2 n b1 b2 L) (hf : Frm F x y) (h1 : ¬ F b1) (h2 : ¬ F b2) (g1 : ∀ b, G1 b → F1 b ∨ x.heap.size ≤ b) (g2 : ∀ b, G2 b → F2 b ∨ x.heap.size ≤ b) : Lgs w y G1 G2 a1 a2 n b1 b2 L :=
  ⟨h.p.keep hf h1, h.r.keep hf h2, h.ok, fun hb => (g1 _ hb).elim h.n11 (fun g => Nat.lt_irrefl _ (Nat.lt_of_lt_of_le h.p.lt g)), fun hb => (g2 _ hb).elim h.n21 (fun g => Nat.lt_irrefl _ (Nat.lt_of_lt_of_le h.p.lt g)),
    fun hb => (g1 _ hb).elim h.n12 (fun g => Nat.lt_irrefl _ (Nat.lt_of_lt_of_le h.r.lt g)), fun hb => (g2 _ hb).elim h.n22 (fun g => Nat.lt_irrefl _ (Nat.lt_of_lt_of_le h.r.lt g)), h.ne, h.lo1, h.lo2⟩
theorem Both.keep (h : Both w x F1 F2 a1 a2 n lv mv) (hf : Frm F x y) (hF : ∀ b, F b → F1 b ∨ F2 b) (g1 : ∀ b, G1 b → F1 b ∨ x.heap.size ≤ b) (g2 : ∀ b, G2 b → F2 b ∨ x.heap.size ≤ b) : Both w y G1 G2 a1 a2 n lv mv := by
  rcases h with h | ⟨b1, b2, L, e1, e2, h⟩
  · exact .inl h
  · exact .inr ⟨b1, b2, L, e1, e2, h.keep hf (fun hb => (hF _ hb).elim h.n11 h.n21) (fun hb => (hF _ hb).elim h.n12 h.n22) g1 g2⟩
theorem Both.below (h : Both w x F1 F2 a1 a2 n lv mv) (hb : Below x.heap.size x y) : Both w y F1 F2 a1 a2 n lv mv :=
  h.keep (F := fun _ => False) (Frm.of_below hb) (fun _ h => h.elim) (fun _ h => .inl h) (fun _ h => .inl h)
/-- Both disks behind a call on the program's log. -/
theorem two_p {S1 S2 T : Dsk} (h : Two w x F1 F2 a1 a2 n S1 S2) (hd : PD y G1 a1 n T) (hf : Frm (fun b => F1 b ∨ b = b1) x y) (hG : ∀ b, G1 b → F1 b ∨ x.heap.size ≤ b) (hn : ¬ F2 b1) (hlo : w.heap.size ≤ b1) : Two w y G1 F2 a1 a2 n T S2 :=
  ⟨hd, h.r.keep hf fun b hb h2 => hb.elim (fun hb => h.ne b hb h2) (fun e => hn (e ▸ h2)), fun b hb h2 => (hG b hb).elim (fun hb => h.ne b hb h2) (fun g => Nat.lt_irrefl _ (Nat.lt_of_lt_of_le (h.r.lt b h2) g)),
    fun b hb => (hG b hb).elim (h.lo1 b) (fun g => Nat.le_trans h.bel.size g), h.lo2, h.bel.trans (hf.below (fun b hb => hb.elim (h.lo1 b) (fun e => e ▸ hlo)) h.bel.size)⟩
theorem two_r {S1 S2 T : Dsk} (h : Two w x F1 F2 a1 a2 n S1 S2) (hd : RD y G2 a2 n T) (hf : Frm (fun b => F2 b ∨ b = b2) x y) (hG : ∀ b, G2 b → F2 b ∨ x.heap.size ≤ b) (hn : ¬ F1 b2) (hlo : w.heap.size ≤ b2) : Two w y F1 G2 a1 a2 n S1 T :=
  ⟨h.p.keep hf fun b hb h1 => hb.elim (fun hb => h.ne b h1 hb) (fun e => hn (e ▸ h1)), hd, fun b h1 hb => (hG b hb).elim (fun hb => h.ne b h1 hb) (fun g => Nat.lt_irrefl _ (Nat.lt_of_lt_of_le (h.p.lt b h1) g)),
    h.lo1, fun b hb => (hG b hb).elim (h.lo2 b) (fun g => Nat.le_trans h.bel.size g), h.bel.trans (hf.below (fun b hb => hb.elim (h.lo2 b) (fun e => e ▸ hlo)) h.bel.size)⟩
/-- The same, where no log's block is turned (Open). -/
theorem two_po {S1 S2 T : Dsk} (h : Two w x F1 F2 a1 a2 n S1 S2) (hd : PD y G1 a1 n T) (hf : Frm F1 x y) (hG : ∀ b, G1 b → F1 b ∨ x.heap.size ≤ b) : Two w y G1 F2 a1 a2 n T S2 :=
  ⟨hd, h.r.keep hf h.ne, fun b hb h2 => (hG b hb).elim (fun hb => h.ne b hb h2) (fun g => Nat.lt_irrefl _ (Nat.lt_of_lt_of_le (h.r.lt b h2) g)),
    fun b hb => (hG b hb).elim (h.lo1 b) (fun g => Nat.le_trans h.bel.size g), h.lo2, h.bel.trans (hf.below h.lo1 h.bel.size)⟩
theorem two_ro {S1 S2 T : Dsk} (h : Two w x F1 F2 a1 a2 n S1 S2) (hd : RD y G2 a2 n T) (hf : Frm F2 x y) (hG : ∀ b, G2 b → F2 b ∨ x.heap.size ≤ b) : Two w y F1 G2 a1 a2 n S1 T :=
  ⟨h.p.keep hf fun b h2 h1 => h.ne b h1 h2, hd, fun b h1 hb => (hG b hb).elim (fun hb => h.ne b h1 hb) (fun g => Nat.lt_irrefl _ (Nat.lt_of_lt_of_le (h.p.lt b h1) g)),
    h.lo1, fun b hb => (hG b hb).elim (h.lo2 b) (fun g => Nat.le_trans h.bel.size g), h.bel.trans (hf.below h.lo2 h.bel.size)⟩
/-- The logs that both Opens answer. -/
theorem both_open {x1 x2 : World} {o : Option Lg} (h : Two w x F1 F2 a1 a2 n S S') (hok : ∀ L, o = some L → L.Ok n) (hp : PLo x1 G1 x.heap.size a1 lv o) (hr : RLo x2 G2 x1.heap.size a2 mv o) (hf : Frm F2 x1 x2) (hG2 : ∀ b, G2 b → F2 b ∨ x1.heap.size ≤ b)
    (hG1 : ∀ b, G1 b → b < x1.heap.size) : Both w x2 G1 G2 a1 a2 n lv mv := by
  rcases hp with ⟨e1, rfl⟩ | ⟨L, b1, e1, rfl, h1, hl1, hn1⟩
  · rcases hr with ⟨_, rfl⟩ | ⟨L, b2, e2, _⟩
    · exact .inl ⟨rfl, rfl⟩
    · rw [e1] at e2; cases e2
  · rcases hr with ⟨e2, _⟩ | ⟨L', b2, e2, rfl, h2, hl2, hn2⟩
    · rw [e1] at e2; cases e2
    · rw [e1] at e2
      injection e2 with e2
      subst e2
      have hF2 : ¬ F2 b1 := fun hb => Nat.lt_irrefl _ (Nat.lt_of_lt_of_le (h.r.lt b1 hb) hl1)
      exact .inr ⟨b1, b2, L, rfl, rfl, h1.keep hf hF2, h2, hok L e1, hn1, fun hb => (hG2 _ hb).elim hF2 (fun g => Nat.lt_irrefl _ (Nat.lt_of_lt_of_le h1.lt g)),
        fun hb => Nat.lt_irrefl _ (Nat.lt_of_lt_of_le (hG1 _ hb) hl2), hn2, fun e => Nat.lt_irrefl _ (Nat.lt_of_lt_of_le h1.lt (e ▸ hl2)), Nat.le_trans h.bel.size hl1, Nat.le_trans h.bel.size (Nat.le_trans (Nat.le_trans hl1 (Nat.le_of_lt h1.lt)) hl2)⟩
end

set_option maxHeartbeats 800000 in
theorem same_none (w : World) : Calls Tryz.prog 21 #[.pointer none, .pointer none] w fun e w' => e = .returned (.bool true) ∧ Below w.heap.size w w' := by
  go_enter Tryz.func21, Tryz.ntmps21
  go_wp2_with (first
    | (go_at_call 36; refine (pfailed_nil _).mono ?_; rintro e w' ⟨rfl, rfl⟩)
    | (go_at_call 58; refine (rfailed_nil _).mono ?_; rintro e w' ⟨rfl, rfl⟩)
    | (go_at_call 31; refine (precords_nil _).mono ?_; rintro e w' ⟨rfl, rfl⟩)
    | (go_at_call 59; refine (rrecords_nil _).mono ?_; rintro e w' ⟨rfl, rfl⟩)
    | (go_at_call 32; refine (psynced_nil _).mono ?_; rintro e w' ⟨rfl, rfl⟩)
    | (go_at_call 60; refine (rsynced_nil _).mono ?_; rintro e w' ⟨rfl, rfl⟩)
    | (go_at_call 30; refine (pfree_nil _).mono ?_; rintro e w' ⟨rfl, rfl⟩)
    | (go_at_call 61; refine (rfree_nil _).mono ?_; rintro e w' ⟨rfl, rfl⟩))
  go_ret
  exact ⟨rfl, Below.refl _ _⟩
set_option maxHeartbeats 1600000 in
theorem same_some {w : World} {a1 a2 b1 b2 n : Nat} {L : Lg} (hp : PL w b1 a1 L) (hr : RL w b2 a2 L) (hn : n ≤ 4096) (hok : L.Ok n) :
    Calls Tryz.prog 21 #[.pointer (some ⟨b1, 0, none⟩), .pointer (some ⟨b2, 0, none⟩)] w fun e w' => e = .returned (.bool true) ∧ Below w.heap.size w w' := by
  have hpf := pfree_any hp hn hok
  have HR := Lib.hid hr
  have HP := Lib.hid hp
  have hrf := fun v (hv : Below w.heap.size w v) => rfree_any (HR.out.below hv) hn hok
  have c1 := pfailed_any hp
  have c2 := rfailed_any hr
  have c3 := precords_any hp
  have c4 := rrecords_any hr
  have c5 := psynced_any hp
  have c6 := rsynced_any hr
  generalize xsize L.c - L.fin = fr at hpf hrf
  generalize L.bad = lb at c1 c2
  generalize (L.cnt : Int) = lc at c3 c4
  generalize (L.syn : Int) = ls' at c5 c6
  clear hp hr hok
  go_enter Tryz.func21, Tryz.ntmps21
  go_wp2_with fail
  refine c1.mono ?_
  rintro e w' ⟨rfl, rfl⟩
  go_wp2_with fail
  refine c2.mono ?_
  rintro e w' ⟨rfl, rfl⟩
  go_wp2_with fail
  refine c3.mono ?_
  rintro e w' ⟨rfl, rfl⟩
  go_wp2_with fail
  refine c4.mono ?_
  rintro e w' ⟨rfl, rfl⟩
  go_wp2_with fail
  refine c5.mono ?_
  rintro e w' ⟨rfl, rfl⟩
  go_wp2_with fail
  refine c6.mono ?_
  rintro e w' ⟨rfl, rfl⟩
  go_wp2_with fail
  refine hpf.mono ?_
  rintro e w1 ⟨rfl, hb1⟩
  go_wp2_with fail
  refine (hrf w1 hb1).mono ?_
  rintro e w2 ⟨rfl, hb2⟩
  go_wp2
  go_ret
  exact ⟨rfl, hb1.trans (hb2.mono hb1.size)⟩
theorem same_both {w x : World} {F1 F2 : Nat → Prop} {a1 a2 n : Nat} {lv mv : Value} (h : Both w x F1 F2 a1 a2 n lv mv) (hn : n ≤ 4096) :
    Calls Tryz.prog 21 #[lv, mv] x fun e x' => e = .returned (.bool true) ∧ Below x.heap.size x x' := by
  rcases h with ⟨rfl, rfl⟩ | ⟨b1, b2, L, rfl, rfl, h⟩
  · exact same_none x
  · exact same_some h.p h.r hn h.ok
end

section
open Go.RowKit

def wk0 : WOp := (Dsk.fresh st0).wopen 2 0 2 1#32
def wkL : Lg := ⟨1#32, 0, 2, 0, 0, 0, false⟩
def wkd : List UInt8 := List.replicate 40 0
def wk1 : Dsk × Int × Lg := wk0.S.wapp 2 wkL wkd
def wkL1 : Lg := ⟨1#32, 0, 2, 54, 1, 0, false⟩
def wk2 : Dsk × Int × Lg := wk1.1.wapp 2 wkL1 wkd
def wkL2 : Lg := ⟨1#32, 0, 2, 108, 2, 0, false⟩
def wk3 : Dsk × Int × Lg := wk2.1.wapp 2 wkL2 wkd
def wk4 : Dsk × Int × Lg := wk3.1.wsync wkL2
def wkL4 : Lg := ⟨1#32, 0, 2, 108, 2, 2, false⟩
theorem wk0_e : wk0.err = 0 := by kernel_rfl
theorem wk0_L : wk0.L = some wkL := by kernel_rfl
theorem wk0_p : wk0.ps = [] := by kernel_rfl
theorem wk1_e : wk1.2.1 = 0 := by kernel_rfl
theorem wk1_L : wk1.2.2 = wkL1 := by kernel_rfl
theorem wk2_e : wk2.2.1 = 0 := by kernel_rfl
theorem wk2_L : wk2.2.2 = wkL2 := by kernel_rfl
theorem wk3_e : wk3.2.1 = 11 := by kernel_rfl
theorem wk3_L : wk3.2.2 = wkL2 := by kernel_rfl
theorem wk4_e : wk4.2.1 = 0 := by kernel_rfl
theorem wk4_L : wk4.2.2 = wkL4 := by kernel_rfl

theorem nv_1 : nv 1#32 = 1 := by unfold nv; rfl
theorem has_zrow {w : World} {g n : Nat} (h : Row w g 5 (zeros n)) : Has w w.heap.size (some ⟨g, 0, none⟩) n ((List.replicate n (0 : UInt8)).map bv) := by
  have hz : zeros n = ((List.replicate n (0 : UInt8)).map bv).toArray := by simp [zeros, bv]
  unfold Row at h
  rw [hz] at h
  exact has_row8 h (by simp)

set_option maxRecDepth 20000 in
set_option maxHeartbeats 6400000 in
theorem awake8_any (w : World) : Calls Tryz.prog 5 #[] w (Yes w) := by
  have hnew : Calls Tryz.prog 6 #[.int .i64 2] w fun e w' => ∃ a, e = .returned (.tuple #[.pointer (some ⟨a, 0, none⟩), .int .i64 0]) ∧ w.heap.size ≤ a ∧ PD w' (newF w w') a 2 (Dsk.fresh st0) ∧ Below w.heap.size w w' := new_yes 2 w (by omega) (by omega)
  go_enter Tryz.func5, Tryz.ntmps5
  go_wp2_with fail
  refine hnew.mono ?_
  rintro r w1 ⟨a, rfl, _, hd0, hb0⟩
  have hop := pwopen_any hd0 0 2 1#32 (by omega)
  rw [nv_1] at hop
  have hok0 := wopen_ok hd0.ok wk0_L
  have HLo : Hid (∀ x, newF w w1 x → w.heap.size ≤ x) := fun x hx => hx.1
  have HB := Lib.hid hb0
  clear hnew hb0 hd0
  go_wp2_with fail
  refine hop.mono ?_
  rintro r w2 ⟨G1, pv, lv, rfl, hd1, hf1, hG1, hpl, ⟨Ap, cp, vsp, rfl, _, _, _, _⟩⟩
  rw [show ((Dsk.fresh st0).wopen 2 0 2 1#32).err = 0 from wk0_e, show ((Dsk.fresh st0).wopen 2 0 2 1#32).ps = [] from wk0_p]
  obtain ⟨b, rfl, hp1, hbl, hn1⟩ : ∃ b, pv = .pointer (some ⟨b, 0, none⟩) ∧ PL w2 b a wkL ∧ w1.heap.size ≤ b ∧ ¬ G1 b := by
    rcases hpl with ⟨e, _⟩ | ⟨L, b, e, h1, h2, h3, h4⟩
    · rw [show ((Dsk.fresh st0).wopen 2 0 2 1#32).L = some wkL from wk0_L] at e; cases e
    · rw [show ((Dsk.fresh st0).wopen 2 0 2 1#32).L = some wkL from wk0_L] at e
      injection e with e
      subst e
      exact ⟨b, h1, h2, h3, h4⟩
  have HD1 : Hid (PD w2 G1 a 2 wk0.S) := hd1
  have HP1 := Lib.hid hp1
  have HN1 := Lib.hid hn1
  have HK1 : Hid (Lg.Ok 2 wkL) := hok0.1
  have HB1 := Lib.hid (HB.out.trans (hf1.below HLo.out HB.out.size))
  have HLo1 : Hid (∀ x, G1 x → w.heap.size ≤ x) := fun x hx => (hG1 x hx).elim (HLo.out x) (fun g => Nat.le_trans HB.out.size g)
  have HLb : Hid (w.heap.size ≤ b) := Nat.le_trans HB.out.size hbl
  clear hop hd1 hf1 hG1 hpl hp1 hn1 hok0 hbl
  go_wp2_with (at_make; refine wpList_wanted (by exact rfl) ?_; refine wpList_make_bytes _ rfl _ _ (by exact rfl) 40 (by exact rfl) (by exact rfl) (by omega) ?_; intro w2m g1 hg0 hg1 hrow1 hgr1)
  have hbm1 : Below w2.heap.size w2 w2m := (Below.refl _ _).grown hgr1 (Nat.le_refl _) (fun k e => by cases e)
  have happ1 := pwapp_any (HD1.out.below hbm1) (HP1.out.below hbm1) HN1.out HK1.out (some ⟨g1, 0, none⟩) 40 40 _ wkd (has_zrow hrow1) (by intro e; cases e) (by omega) (Nat.le_refl _)
  refine happ1.mono ?_
  rintro r w3 ⟨G2, rfl, hd2, hp2, hf2, hG2⟩
  rw [show (wk0.S.wapp 2 wkL wkd).2.1 = 0 from wk1_e]
  have HD2 : Hid (PD w3 G2 a 2 wk1.1) := hd2
  have HP2 : Hid (PL w3 b a wkL1) := by have := hp2; rwa [show (wk0.S.wapp 2 wkL wkd).2.2 = wkL1 from wk1_L] at this
  have HN2 : Hid (¬ G2 b) := fun hb => (hG2 b hb).elim HN1.out (fun g => Nat.lt_irrefl _ (Nat.lt_of_lt_of_le ((HP1.out.below hbm1).lt) g))
  have HK2 : Hid (Lg.Ok 2 wkL1) := by have := wapp_ok (S := wk0.S) (n := 2) (by omega) HK1.out wkd; rwa [show (wk0.S.wapp 2 wkL wkd).2.2 = wkL1 from wk1_L] at this
  have HB2 := Lib.hid (HB1.out.trans ((hbm1.mono HB1.out.size).trans (hf2.below (fun x hx => hx.elim (HLo1.out x) (fun e => e ▸ HLb.out)) (Nat.le_trans HB1.out.size hbm1.size))))
  have HLo2 : Hid (∀ x, G2 x → w.heap.size ≤ x) := fun x hx => (hG2 x hx).elim (HLo1.out x) (fun g => Nat.le_trans (Nat.le_trans HB1.out.size hbm1.size) g)
  clear happ1 hd2 hp2 hf2 hG2 hbm1 hrow1 hgr1 hg0 hg1
  go_wp2_with (at_make; refine wpList_wanted (by exact rfl) ?_; refine wpList_make_bytes _ rfl _ _ (by exact rfl) 40 (by exact rfl) (by exact rfl) (by omega) ?_; intro w3m g2 hg0 hg1 hrow2 hgr2)
  have hbm2 : Below w3.heap.size w3 w3m := (Below.refl _ _).grown hgr2 (Nat.le_refl _) (fun k e => by cases e)
  have happ2 := pwapp_any (HD2.out.below hbm2) (HP2.out.below hbm2) HN2.out HK2.out (some ⟨g2, 0, none⟩) 40 40 _ wkd (has_zrow hrow2) (by intro e; cases e) (by omega) (Nat.le_refl _)
  refine happ2.mono ?_
  rintro r w4 ⟨G3, rfl, hd3, hp3, hf3, hG3⟩
  rw [show (wk1.1.wapp 2 wkL1 wkd).2.1 = 0 from wk2_e]
  have HD3 : Hid (PD w4 G3 a 2 wk2.1) := hd3
  have HP3 : Hid (PL w4 b a wkL2) := by have := hp3; rwa [show (wk1.1.wapp 2 wkL1 wkd).2.2 = wkL2 from wk2_L] at this
  have HN3 : Hid (¬ G3 b) := fun hb => (hG3 b hb).elim HN2.out (fun g => Nat.lt_irrefl _ (Nat.lt_of_lt_of_le ((HP2.out.below hbm2).lt) g))
  have HK3 : Hid (Lg.Ok 2 wkL2) := by have := wapp_ok (S := wk1.1) (n := 2) (by omega) HK2.out wkd; rwa [show (wk1.1.wapp 2 wkL1 wkd).2.2 = wkL2 from wk2_L] at this
  have HB3 := Lib.hid (HB2.out.trans ((hbm2.mono HB2.out.size).trans (hf3.below (fun x hx => hx.elim (HLo2.out x) (fun e => e ▸ HLb.out)) (Nat.le_trans HB2.out.size hbm2.size))))
  have HLo3 : Hid (∀ x, G3 x → w.heap.size ≤ x) := fun x hx => (hG3 x hx).elim (HLo2.out x) (fun g => Nat.le_trans (Nat.le_trans HB2.out.size hbm2.size) g)
  clear happ2 hd3 hp3 hf3 hG3 hbm2 hrow2 hgr2 hg0 hg1
  go_wp2_with (at_make; refine wpList_wanted (by exact rfl) ?_; refine wpList_make_bytes _ rfl _ _ (by exact rfl) 40 (by exact rfl) (by exact rfl) (by omega) ?_; intro w4m g3 hg0 hg1 hrow3 hgr3)
  have hbm3 : Below w4.heap.size w4 w4m := (Below.refl _ _).grown hgr3 (Nat.le_refl _) (fun k e => by cases e)
  have happ3 := pwapp_any (HD3.out.below hbm3) (HP3.out.below hbm3) HN3.out HK3.out (some ⟨g3, 0, none⟩) 40 40 _ wkd (has_zrow hrow3) (by intro e; cases e) (by omega) (Nat.le_refl _)
  refine happ3.mono ?_
  rintro r w5 ⟨G4, rfl, hd4, hp4, hf4, hG4⟩
  rw [show (wk2.1.wapp 2 wkL2 wkd).2.1 = 11 from wk3_e]
  have HD4 : Hid (PD w5 G4 a 2 wk3.1) := hd4
  have HP4 : Hid (PL w5 b a wkL2) := by have := hp4; rwa [show (wk2.1.wapp 2 wkL2 wkd).2.2 = wkL2 from wk3_L] at this
  have HN4 : Hid (¬ G4 b) := fun hb => (hG4 b hb).elim HN3.out (fun g => Nat.lt_irrefl _ (Nat.lt_of_lt_of_le ((HP3.out.below hbm3).lt) g))
  have HK4 : Hid (Lg.Ok 2 wkL2) := by have := wapp_ok (S := wk2.1) (n := 2) (by omega) HK3.out wkd; rwa [show (wk2.1.wapp 2 wkL2 wkd).2.2 = wkL2 from wk3_L] at this
  have HB4 := Lib.hid (HB3.out.trans ((hbm3.mono HB3.out.size).trans (hf4.below (fun x hx => hx.elim (HLo3.out x) (fun e => e ▸ HLb.out)) (Nat.le_trans HB3.out.size hbm3.size))))
  have HLo4 : Hid (∀ x, G4 x → w.heap.size ≤ x) := fun x hx => (hG4 x hx).elim (HLo3.out x) (fun g => Nat.le_trans (Nat.le_trans HB3.out.size hbm3.size) g)
  clear happ3 hd4 hp4 hf4 hG4 hbm3 hrow3 hgr3 hg0 hg1
  have hfr := pfree_any HP4.out (by omega) HK4.out
  rw [show xsize wkL2.c - (wkL2.fin : Int) = 20 from by kernel_rfl] at hfr
  go_wp2_with fail
  refine hfr.mono ?_
  rintro r w6 ⟨rfl, hb6⟩
  have HD6 := Lib.hid (HD4.out.below hb6)
  have HP6 := Lib.hid (HP4.out.below hb6)
  have HB6 := Lib.hid (HB4.out.trans (hb6.mono HB4.out.size))
  clear hfr hb6
  go_wp2_with fail
  refine (precords_any HP6.out).mono ?_
  rintro r w' ⟨rfl, rfl⟩
  rw [show ((wkL2.cnt : Nat) : Int) = 2 from rfl]
  go_wp2_with fail
  refine (psynced_any HP6.out).mono ?_
  rintro r w' ⟨rfl, rfl⟩
  rw [show ((wkL2.syn : Nat) : Int) = 0 from rfl]
  have hsy := plsync_any HD6.out HP6.out HN4.out
  go_wp2_with fail
  refine hsy.mono ?_
  rintro r w7 ⟨G7, rfl, hd7, hp7, hf7, hG7⟩
  rw [show (wk3.1.wsync wkL2).2.1 = 0 from wk4_e]
  have HP7 : Hid (PL w7 b a wkL4) := by have := hp7; rwa [show (wk3.1.wsync wkL2).2.2 = wkL4 from wk4_L] at this
  have HB7 := Lib.hid (HB6.out.trans (hf7.below (fun x hx => hx.elim (HLo4.out x) (fun e => e ▸ HLb.out)) HB6.out.size))
  clear hsy hd7 hp7 hf7 hG7
  go_wp2_with fail
  refine (psynced_any HP7.out).mono ?_
  rintro r w' ⟨rfl, rfl⟩
  rw [show ((wkL4.syn : Nat) : Int) = 2 from rfl]
  go_wp2
  go_ret
  exact ⟨rfl, HB7.out⟩
end

section
open Go.RowKit

set_option maxHeartbeats 400000 in
theorem smallFaults_any (A : Option Addr) (n c : Nat) (w : World) : Calls Tryz.prog 29 #[.slice A n c] w fun e w' => e = .returned (.bool (decide ((n : Int) ≤ 66))) ∧ w = w' := by
  go_enter Tryz.func29, Tryz.ntmps29
  go_wp2
  go_ret
  exact ⟨rfl, rfl⟩
end

section
open Go.RowKit Go.ChangeShapes Go.WideShapes Go.Deep

theorem len4 {α : Type} {l : List α} (h : l.length = 4) : ∃ a b c d, l = [a, b, c, d] := by
  match l, h with
  | [a, b, c, d], _ => exact ⟨a, b, c, d, rfl⟩

/-- An operation of a script as it came in. -/
structure WOpV where
  kind : Int
  A8 : Option Addr
  n8 : Nat
  c8 : Nat
  l : List UInt8
  Af : Option Addr
  nf : Nat
  cf : Nat
  fs : List (Int × Int)
  Ak : Option Addr
  nk : Nat
  ck : Nat
  ks : List (Int × Int)
def I64 (z : Int) : Prop := -9223372036854775808 ≤ z ∧ z ≤ 9223372036854775807
structure WOpIn (w : World) (o : WOpV) : Prop where
  bk : I64 o.kind
  a8 : Arg8 w o.A8 o.n8 o.c8 o.l
  fl : PairsF noF w o.Af o.nf o.fs ∧ (o.Af = none → o.cf = 0) ∧ o.nf ≤ maxLen
  p : PairsF noF w o.Ak o.nk o.ks ∧ (o.Ak = none → o.ck = 0) ∧ o.nk ≤ maxLen
/-- What stands in its cells. -/
def WCells (w : World) (b o : Nat) (x : WOpV) : Prop :=
  w.cell? ⟨b, o, none⟩ = some (.int .i64 x.kind) ∧ w.cell? ⟨b, o + 1, none⟩ = some (.slice x.A8 x.n8 x.c8) ∧ w.cell? ⟨b, o + 2, none⟩ = some (.slice x.Af x.nf x.cf) ∧ w.cell? ⟨b, o + 3, none⟩ = some (.slice x.Ak x.nk x.ck)
/-- A script that came in. -/
def WOpsIn (w : World) (A : Option Addr) (n : Nat) (os : List WOpV) : Prop :=
  os.length = n ∧ (0 < n → ∃ b off, A = some ⟨b, off, none⟩ ∧ b < w.heap.size ∧ ∀ j (h : j < os.length), WOpIn w os[j] ∧ WCells w b (off + j * 4) os[j])

section
variable {H : Type} {enc : TypeId × Value → H} {w : World} {held : Bool}
set_option maxRecDepth 100000 in
theorem open_wops {fuel : Nat} {A : Option Addr} {n c : Nat} {x : DataW H × List MemPlace} (h : DataW.trod enc Tryz.prog w 0 (fun _ => true) held fuel 25 [.slice A n c] = some x) : ∃ os, WOpsIn w A n os ∧ n ≤ maxLen := by
  rcases open_slice Tryz.underlying25 h with ⟨hcs, _⟩ | ⟨a, len, cap, m, q, D, Pl, hcs, _, hl, hm, hmm, _, hx⟩
  · simp at hcs
    obtain ⟨rfl, rfl, rfl⟩ := hcs
    exact ⟨[], ⟨rfl, fun h => absurd h (by omega)⟩, Nat.zero_le _⟩
  · simp at hcs
    obtain ⟨rfl, rfl, rfl⟩ := hcs
    have hC : Tryz.prog.cellsOf 41 = 4 := by kernel_rfl
    have hnm : n ≤ m := by rw [hmm]; simp; omega
    have each : ∀ i, i < m → ∃ o : WOpV, WOpIn w o ∧ ∀ j v, ([.int .i64 o.kind, .slice o.A8 o.n8 o.c8, .slice o.Af o.nf o.cf, .slice o.Ak o.nk o.ck] : List Value)[j]? = some v → w.cell? (a.add (i * 4 + j)) = some v := by
      intro i hi
      obtain ⟨cs', hc, ht'⟩ := hx i hi
      rw [hC] at hc
      obtain ⟨_, hcl, hat⟩ := World.cells?_some hc
      obtain ⟨ys, n', hn', hy, hlen, hyl, hf⟩ := DataW.trod_struct Tryz.underlying41 ht'
      obtain ⟨v0, v1, v2, v3, rfl⟩ := len4 hcl
      obtain ⟨y0, y1, y2, y3, rfl⟩ := len4 hyl
      have k0 : Tryz.prog.cellsOf 3 = 1 := by kernel_rfl
      have k2 : Tryz.prog.cellsOf 37 = 1 := by kernel_rfl
      have k3 : Tryz.prog.cellsOf 38 = 1 := by kernel_rfl
      have k4 : Tryz.prog.cellsOf 39 = 1 := by kernel_rfl
      have t0 : DataW.trod enc Tryz.prog w 0 (fun _ => true) held n' 3 [v0] = some y0 := by
        have := hf 0 _ rfl
        change DataW.trod _ _ _ _ _ _ _ 3 (List.take (Tryz.prog.cellsOf 3) _) = _ at this
        rw [k0] at this
        exact this
      have t1 : DataW.trod enc Tryz.prog w 0 (fun _ => true) held n' 37 [v1] = some y1 := by
        have := hf 1 _ rfl
        change DataW.trod _ _ _ _ _ _ _ 37 (List.take (Tryz.prog.cellsOf 37) _) = _ at this
        rw [k2] at this
        exact this
      have t2 : DataW.trod enc Tryz.prog w 0 (fun _ => true) held n' 38 [v2] = some y2 := by
        have := hf 2 _ rfl
        change DataW.trod _ _ _ _ _ _ _ 38 (List.take (Tryz.prog.cellsOf 38) _) = _ at this
        rw [k3] at this
        exact this
      have t3 : DataW.trod enc Tryz.prog w 0 (fun _ => true) held n' 39 [v3] = some y3 := by
        have := hf 3 _ rfl
        change DataW.trod _ _ _ _ _ _ _ 39 (List.take (Tryz.prog.cellsOf 39) _) = _ at this
        rw [k4] at this
        exact this
      obtain ⟨x0, r0, _, w0⟩ := DataW.trod_int tyInt t0
      obtain ⟨A5, n5, c5, rfl⟩ := trod_slice_val tyBs t1
      obtain ⟨A6, n6, c6, rfl⟩ := trod_slice_val Tryz.underlying38 t2
      obtain ⟨A7, n7, c7, rfl⟩ := trod_slice_val Tryz.underlying39 t3
      obtain ⟨l, hl8⟩ := open8 t1
      obtain ⟨fs, hfs⟩ := open_flt t2
      obtain ⟨ks, hks⟩ := open_kps t3
      simp at r0
      subst r0
      refine ⟨⟨x0, A5, n5, c5, l, A6, n6, c6, fs, A7, n7, c7, ks⟩, ⟨bounds_i64 w0, hl8, hfs, hks⟩, fun j v hj => ?_⟩
      have hjl : j < 4 := (List.getElem?_eq_some_iff.1 hj).1
      have e := hat j (by omega)
      rw [Go.Deep.add_add] at e
      rw [e]
      exact hj
    have hall : ∃ f : Nat → WOpV, ∀ i, i < m → WOpIn w (f i) ∧ ∀ j v, ([.int .i64 (f i).kind, .slice (f i).A8 (f i).n8 (f i).c8, .slice (f i).Af (f i).nf (f i).cf, .slice (f i).Ak (f i).nk (f i).ck] : List Value)[j]? = some v → w.cell? (a.add (i * 4 + j)) = some v := by
      refine ⟨fun i => if hi : i < m then Classical.choose (each i hi) else ⟨0, none, 0, 0, [], none, 0, 0, [], none, 0, 0, []⟩, fun i hi => ?_⟩
      simp only [dif_pos hi]
      exact Classical.choose_spec (each i hi)
    obtain ⟨f, hf⟩ := hall
    refine ⟨(List.range n).map f, ⟨by simp, fun h0 => ?_⟩, by omega⟩
    obtain ⟨ea, hlt⟩ := spot_of (a := a) (by simpa using (hf 0 (by omega)).2 0 _ rfl)
    refine ⟨a.block, a.off, by rw [← ea], hlt, fun j hj => ?_⟩
    have hj' : j < n := by simpa using hj
    obtain ⟨g0, g1⟩ := hf j (by omega)
    rw [ea] at g1
    simp only [add_flat] at g1
    simp only [List.getElem_map, List.getElem_range]
    have g2 : ∀ i v, ([.int .i64 (f j).kind, .slice (f j).A8 (f j).n8 (f j).c8, .slice (f j).Af (f j).nf (f j).cf, .slice (f j).Ak (f j).nk (f j).ck] : List Value)[i]? = some v → w.cell? ⟨a.block, a.off + j * 4 + i, none⟩ = some v := fun i v h => by rw [Nat.add_assoc]; exact g1 i v h
    exact ⟨g0, g2 0 _ rfl, g2 1 _ rfl, g2 2 _ rfl, g2 3 _ rfl⟩
end

set_option maxRecDepth 100000 in
/-- An extent that came in. -/
theorem open_ext {H : Type} {enc : TypeId × Value → H} {W : World} {base : Nat} {held : Bool} {v : Value} {d : DataW H} {p : List MemPlace} (hval : Value.okWide Tryz.prog W .any base 23 v) (h : DataW.Trod enc Tryz.prog W 0 (fun _ => true) held 23 v d p) :
    ∃ f c : Int, v = .agg #[.int .i64 f, .int .i64 c] ∧ I64 f ∧ I64 c := by
  obtain ⟨cs, rfl, hsz⟩ := Go.WideShapes.okWide_struct Tryz.underlying23 hval
  have hc2 : Tryz.prog.cellsOf 23 = 2 := by kernel_rfl
  have hc1 : Tryz.prog.cellsOf 3 = 1 := by kernel_rfl
  rw [hc2] at hsz
  obtain ⟨l⟩ := cs
  match l, hsz with
  | [c0, c1], _ =>
    obtain ⟨fuel, hf⟩ := h
    obtain ⟨ys, n', _, _, _, hyl, hg⟩ := DataW.trod_struct Tryz.underlying23 hf
    match ys, hyl with
    | [y0, y1], _ =>
      have s0 : DataW.trod enc Tryz.prog W 0 (fun _ => true) held n' 3 [c0] = some y0 := by
        have := hg 0 _ rfl
        change DataW.trod _ _ _ _ _ _ _ 3 (List.take (Tryz.prog.cellsOf 3) _) = _ at this
        rw [hc1] at this
        exact this
      have s1 : DataW.trod enc Tryz.prog W 0 (fun _ => true) held n' 3 [c1] = some y1 := by
        have := hg 1 _ rfl
        change DataW.trod _ _ _ _ _ _ _ 3 (List.take (Tryz.prog.cellsOf 3) _) = _ at this
        rw [hc1] at this
        exact this
      obtain ⟨x0, e0, _, w0⟩ := DataW.trod_int tyInt s0
      obtain ⟨x1, e1, _, w1⟩ := DataW.trod_int tyInt s1
      simp at e0 e1
      subst e0 e1
      exact ⟨x0, x1, rfl, bounds_i64 w0, bounds_i64 w1⟩

def WSmall (o : WOpV) : Prop := o.n8 ≤ 1026 ∧ o.nf ≤ 66 ∧ o.nk ≤ 80
def WSmallQ (m : Nat) (os : List WOpV) (w : World) (e : Ending) (w' : World) : Prop := ∃ b, e = .returned (.bool b) ∧ (b = true → m ≤ 40 ∧ ∀ j (h : j < os.length), WSmall os[j]) ∧ w = w'
set_option maxRecDepth 20000 in
set_option maxHeartbeats 1600000 in
theorem wsmall_any (A : Option Addr) (m c : Nat) (os : List WOpV) (w : World) (h : WOpsIn w A m os) :
    Calls Tryz.prog 4 #[.slice A m c] w (WSmallQ m os w) := by
  have HO := Lib.hid h
  clear h
  by_cases h80 : (40 : Int) < m
  · go_enter Tryz.func4, Tryz.ntmps4
    go_wp2
    go_ret
    exact ⟨false, rfl, fun h => (by cases h), rfl⟩
  · have hm80 : Hid (m ≤ 40) := by show _ ≤ _; omega
    go_enter Tryz.func4, Tryz.ntmps4
    go_wp2
    go_loop [3] (fun i => ∃ k : Nat, k ≤ m ∧ i = .int .i64 k ∧ Hid (∀ j (h : j < os.length), j < k → WSmall os[j])) (fun i => m - (RowKit.intOf i).toNat)
    case atStart => exact ⟨0, Nat.zero_le _, rfl, fun j h hj => absurd hj (by omega)⟩
    case round =>
      obtain ⟨k, hk, rfl, HR⟩ := hrel
      have hkb : (k : Int) ≤ 40 := by have := hm80.out; omega
      by_cases hlt : k < m
      · obtain ⟨b, off, rfl, hbw, hc⟩ := HO.out.2 (by omega)
        have hkf : k < os.length := by rw [HO.out.1]; exact hlt
        obtain ⟨e2, e3, e4⟩ := (hc k hkf).2.2
        have hstep : Hid (∀ j (h : j < os.length), j < k + 1 → WSmall os[k] → WSmall os[j]) := fun j h hj hs => by
          by_cases hjk : j = k
          · subst hjk; exact hs
          · exact HR.out j h (by omega)
        have hdef : Hid (WSmall os[k] ↔ os[k].n8 ≤ 1026 ∧ os[k].nf ≤ 66 ∧ os[k].nk ≤ 80) := Iff.rfl
        generalize os[k] = o at e2 e3 e4 hstep hdef
        obtain ⟨_, A8, n8, c8, _, Af, nf, cf, _, Ak, nk, ck, _⟩ := o
        simp only [] at e2 e3 e4 hdef
        clear hc hkf
        by_cases h8 : (1026 : Int) < n8
        · have h8' : decide ((1026 : Int) < n8) = true := by simpa using h8
          go_wp2_with (go_at_call 29; refine (smallFaults_any _ _ _ _).mono ?_; rintro e w' ⟨rfl, rfl⟩)
          go_ret
          exact ⟨false, rfl, fun h => (by cases h), rfl⟩
        · have h8' : decide ((1026 : Int) < n8) = false := by simpa using h8
          by_cases hf : (nf : Int) ≤ 66
          · have hf' : decide ((nf : Int) ≤ 66) = true := by simpa using hf
            by_cases hkk : (80 : Int) < nk
            · go_wp2_with (go_at_call 29; refine (smallFaults_any _ _ _ _).mono ?_; rintro e w' ⟨rfl, rfl⟩; rw [hf'])
              go_ret
              exact ⟨false, rfl, fun h => (by cases h), rfl⟩
            · have hs : Hid (n8 ≤ 1026 ∧ nf ≤ 66 ∧ nk ≤ 80) := by show _ ∧ _; omega
              go_wp2_with (go_at_call 29; refine (smallFaults_any _ _ _ _).mono ?_; rintro e w' ⟨rfl, rfl⟩; rw [hf'])
              go_round
              case rel => exact ⟨k + 1, by omega, by go_num, fun j h hj => hstep.out j h hj (hdef.out.2 hs.out)⟩
              case measure => simp [RowKit.intOf]; omega
          · have hf' : decide ((nf : Int) ≤ 66) = false := by simpa using hf
            go_wp2_with (go_at_call 29; refine (smallFaults_any _ _ _ _).mono ?_; rintro e w' ⟨rfl, rfl⟩; rw [hf'])
            go_ret
            exact ⟨false, rfl, fun h => (by cases h), rfl⟩
      · go_wp2
        go_ret
        exact ⟨true, rfl, fun _ => ⟨hm80.out, fun j h => HR.out j h (by have := HO.out.1; omega)⟩, rfl⟩
end

end Go.Proofs.YtngomoolmncbaaaGreat
