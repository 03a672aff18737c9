/-
Contract of the helper Lists of the statements (package hstsstorekeep).
Which blocks of memory a call may turn: those of a set F, and new ones. No program.
Lists of slices of bytes that a call made, apart from all else.
-/
import Derived.Test.YtngomoolmncbaaaGreatB05
import Derived.Test.YtngomoolmncbaaaGreatB03
import Derived.Maps.RangeWalk
import Derived.Maps.OwnSet
import Derived.Test.YtngomoolmncbaaaGreatB01
namespace Go.Proofs.YtngomoolmncbaaaGreat
section
open Go.RowKit

def listsB (xs ys : List (List UInt8)) : Bool := decide (xs = ys)
theorem listsB_len (xs ys : List (List UInt8)) (h : xs.length ≠ ys.length) : listsB xs ys = false := by
  unfold listsB; rw [decide_eq_false_iff_not]; intro e; exact h (by rw [e])
theorem listsB_at (xs ys : List (List UInt8)) (k : Nat) (h : k < xs.length) (h' : k < ys.length) (hn : xs[k] ≠ ys[k]) : listsB xs ys = false := by
  unfold listsB; rw [decide_eq_false_iff_not]; intro e; subst e; exact hn rfl
theorem listsB_refl (xs : List (List UInt8)) : listsB xs xs = true := by simp [listsB]
theorem take_succ_eqL {xs ys : List (List UInt8)} {k : Nat} (h : k < xs.length) (h' : k < ys.length) (ht : xs.take k = ys.take k) (he : xs[k] = ys[k]) : xs.take (k + 1) = ys.take (k + 1) := by
  rw [List.take_succ_eq_append_getElem h, List.take_succ_eq_append_getElem h', ht, he]
theorem beq_bs_true {a b : List UInt8} (h : a = b) : ((bs a).toList == (bs b).toList) = true := by rw [h]; simp
theorem beq_bs_false {a b : List UInt8} (h : a ≠ b) : ((bs a).toList == (bs b).toList) = false := by
  rw [beq_eq_false_iff_ne, toList_ls, toList_ls, ls_bs, ls_bs]
  exact h
/-- Slices of bytes, wherever they lie. -/
def ManyH (w : World) (vs : List Value) (ps : List (List UInt8)) : Prop :=
  vs.length = ps.length ∧ ∀ (i : Nat) (v : Value) (p : List UInt8), vs[i]? = some v → ps[i]? = some p → ∃ A c, v = .slice A p.length c ∧ (A = none → c = 0) ∧ p.length ≤ c ∧ Has w w.heap.size A p.length (p.map bv)
theorem Many.weak {B : Nat} {w : World} {vs : List Value} {ps : List (List UInt8)} (h : Many B w vs ps) : ManyH w vs ps :=
  ⟨h.1, fun i v p h1 h2 => by
    obtain ⟨A, c, e, g1, g2, g3, _⟩ := h.2 i v p h1 h2
    exact ⟨A, c, e, g1, g2, g3⟩⟩
theorem ManyH.below {w w' : World} {vs : List Value} {ps : List (List UInt8)} (h : ManyH w vs ps) (hb : Below w.heap.size w w') : ManyH w' vs ps :=
  ⟨h.1, fun i v p h1 h2 => by
    obtain ⟨A, c, e, g1, g2, g3⟩ := h.2 i v p h1 h2
    exact ⟨A, c, e, g1, g2, (g3.below hb).more hb.size⟩⟩
theorem ManyH.take {w : World} {vs : List Value} {ps qs : List (List UInt8)} (h : ManyH w vs (ps ++ qs)) : ManyH w (vs.take ps.length) ps := by
  refine ⟨by have := h.1; simp at this ⊢; omega, fun i v p h1 h2 => ?_⟩
  have hi := (List.getElem?_eq_some_iff.1 h2).1
  rw [List.getElem?_take_of_lt hi] at h1
  exact h.2 i v p h1 (by rw [List.getElem?_append_left hi]; exact h2)
/-- The k-th of many slices: its value lies in its cell, and string(..) of it. -/
theorem ManyH.at_ {w : World} {B n : Nat} {A : Option Addr} {vs : List Value} {ps : List (List UInt8)} (h : ManyH w vs ps) (hA : Has w B A n vs) {k : Nat} (hk : k < ps.length) :
    ∃ b off X c, A = some ⟨b, off, none⟩ ∧ b < B ∧ w.cell? ⟨b, off + k, none⟩ = some (.slice X ps[k].length c) ∧ (X = none → c = 0) ∧ Has w w.heap.size X ps[k].length (ps[k].map bv) ∧
      ∀ q, (convert 37 9 (.slice X ps[k].length c)).run Tryz.prog (w.drewN q) = .ok (.string (bs ps[k])) (w.drewN q) := by
  have hkv : k < vs.length := by rw [h.1]; exact hk
  have hn : k < n := by rw [← hA.1]; exact hkv
  obtain ⟨b, off, e, hb, hc⟩ := hA.at_ hn
  obtain ⟨X, c, hv, h1, _, h3⟩ := h.2 k vs[k] ps[k] (List.getElem?_eq_getElem hkv) (List.getElem?_eq_getElem hk)
  rw [hv] at hc
  exact ⟨b, off, X, c, e, hb, hc, h1, h3, fun q => str_has (w.drewN q) X _ c w.heap.size _ (h3.drewN q)⟩

set_option maxHeartbeats 1000000 in
theorem listsH_any (A1 A2 : Option Addr) (n1 n2 c1 c2 : Nat) (xs ys : List (List UInt8)) (vs us : List Value) (B : Nat) (w : World) (hA1 : Has w B A1 n1 vs) (hA2 : Has w B A2 n2 us) (hM1 : ManyH w vs xs) (hM2 : ManyH w us ys)
    (hB : B ≤ w.heap.size) (hl1 : n1 ≤ 1000000000) (hl2 : n2 ≤ 1000000000) :
    Calls Tryz.prog 20 #[.slice A1 n1 c1, .slice A2 n2 c2] w fun e w' => e = .returned (.bool (listsB xs ys)) ∧ Below w.heap.size w w' := by
  have HL1 : Hid (xs.length = n1) := by show _ = _; rw [← hM1.1]; exact hA1.1
  have HL2 : Hid (ys.length = n2) := by show _ = _; rw [← hM2.1]; exact hA2.1
  have HA1 := Lib.hid hA1
  have HA2 := Lib.hid hA2
  have HM1 := Lib.hid hM1
  have HM2 := Lib.hid hM2
  clear hA1 hA2 hM1 hM2
  by_cases hsz : n1 = n2
  · have hsz' : ((n1 : Int) != (n2 : Int)) = false := by simp [hsz]
    have HZ := Lib.hid hsz
    clear hsz
    go_enter Tryz.func20, Tryz.ntmps20
    go_wp2
    go_loopw [5] (fun i wr => ∃ k : Nat, k ≤ n1 ∧ i = .int .i64 k ∧ Below w.heap.size w wr ∧ xs.take k = ys.take k) (fun i _ => n1 - (intOf i).toNat)
    case atStart => exact ⟨0, Nat.zero_le _, rfl, Below.refl _ _, rfl⟩
    case round =>
      obtain ⟨k, hk, rfl, hbw, htk⟩ := hrel
      have HT := Lib.hid htk
      clear htk
      by_cases hlt : k < n1
      · have hk1 : k < xs.length := by rw [HL1.out]; exact hlt
        have hk2 : k < ys.length := by rw [HL2.out, ← HZ.out]; exact hlt
        have hlt2 : k < n2 := by rw [← HZ.out]; exact hlt
        obtain ⟨b1, o1, X1, d1, rfl, hb1, hc1, _, _, hr1⟩ := (HM1.out.below hbw).at_ (HA1.out.below' hbw hB) hk1
        obtain ⟨b2, o2, X2, d2, rfl, hb2, hc2, _, _, hr2⟩ := (HM2.out.below hbw).at_ (HA2.out.below' hbw hB) hk2
        obtain ⟨x, hx⟩ : ∃ x, x = xs[k] := ⟨_, rfl⟩
        obtain ⟨y, hy⟩ : ∃ y, y = ys[k] := ⟨_, rfl⟩
        rw [← hx] at hc1 hr1
        rw [← hy] at hc2 hr2
        by_cases he : x = y
        · have HN := Lib.hid (take_succ_eqL hk1 hk2 HT.out (by rw [← hx, ← hy]; exact he))
          have hbe := beq_bs_true he
          clear he hx hy
          go_wp2
          go_quiet (fail)
          go_wp2
          go_roundw
          case rel => exact ⟨k + 1, by omega, by go_num, below_drewN hbw _, HN.out⟩
          case measure => simp [intOf]; omega
        · have HF := Lib.hid (listsB_at xs ys k hk1 hk2 (by rw [← hx, ← hy]; exact he))
          have hbe := beq_bs_false he
          clear he hx hy
          go_wp2
          go_quiet (fail)
          go_wp2
          go_ret
          exact ⟨ret_bool HF.out.symm, below_drewN hbw _⟩
      · have HF : Hid (listsB xs ys = true) := by
          have h := HT.out
          rw [List.take_of_length_le (by rw [HL1.out]; omega), List.take_of_length_le (by rw [HL2.out, ← HZ.out]; omega)] at h
          show _ = _
          unfold listsB
          exact decide_eq_true h
        go_wp2
        go_ret
        exact ⟨ret_bool HF.out.symm, hbw⟩
  · have hsz' : ((n1 : Int) != (n2 : Int)) = true := by simp; omega
    have HF := Lib.hid (listsB_len xs ys (by rw [HL1.out, HL2.out]; exact hsz))
    clear hsz
    go_enter Tryz.func20, Tryz.ntmps20
    go_wp2
    go_ret
    exact ⟨ret_bool HF.out.symm, Below.refl _ _⟩

theorem lists_any {C1 C2 : Nat} (A1 A2 : Option Addr) (n1 n2 c1 c2 : Nat) (xs ys : List (List UInt8)) (vs us : List Value) (B : Nat) (w : World) (hA1 : Has w B A1 n1 vs) (hA2 : Has w B A2 n2 us) (hM1 : Many C1 w vs xs) (hM2 : Many C2 w us ys)
    (hB : B ≤ w.heap.size) (hl1 : n1 ≤ 1000000000) (hl2 : n2 ≤ 1000000000) :
    Calls Tryz.prog 20 #[.slice A1 n1 c1, .slice A2 n2 c2] w fun e w' => e = .returned (.bool (listsB xs ys)) ∧ Below w.heap.size w w' :=
  listsH_any A1 A2 n1 n2 c1 c2 xs ys vs us B w hA1 hA2 hM1.weak hM2.weak hB hl1 hl2
end

section
open Go.RowKit

/-- Nothing but the blocks of F has turned. -/
structure Frm (F : Nat → Prop) (w w' : World) : Prop where
  os : w'.os = w.os
  tape : w'.tape = w.tape
  output : w'.output = w.output
  size : w.heap.size ≤ w'.heap.size
  block : ∀ k, k < w.heap.size → ¬ F k → w'.heap[k]? = w.heap[k]?

section
variable {F G : Nat → Prop} {w w1 w2 : World}
theorem Frm.refl (F : Nat → Prop) (w : World) : Frm F w w := ⟨rfl, rfl, rfl, Nat.le_refl _, fun _ _ _ => rfl⟩
theorem Frm.trans (h : Frm F w w1) (k : Frm G w1 w2) (hG : ∀ b, G b → F b ∨ w.heap.size ≤ b) : Frm F w w2 :=
  ⟨k.os.trans h.os, k.tape.trans h.tape, k.output.trans h.output, Nat.le_trans h.size k.size, fun i hi hF =>
    (k.block i (by have := h.size; omega) fun hg => (hG i hg).elim hF (fun h1 => by omega)).trans (h.block i hi hF)⟩
theorem Frm.trans' (h : Frm F w w1) (k : Frm F w1 w2) : Frm F w w2 := h.trans k fun _ h => .inl h
theorem Frm.more (h : Frm F w w1) (hG : ∀ b, F b → b < w.heap.size → G b) : Frm G w w1 := ⟨h.os, h.tape, h.output, h.size, fun i hi hn => h.block i hi fun hf => hn (hG i hf hi)⟩
theorem Frm.of_below (h : Below w.heap.size w w1) : Frm F w w1 := ⟨h.os, h.tape, h.output, h.size, fun i hi _ => h.block i hi⟩
theorem Frm.below {B : Nat} (h : Frm F w w1) (hF : ∀ b, F b → B ≤ b) (hB : B ≤ w.heap.size) : Below B w w1 := ⟨h.os, h.tape, h.output, h.size, fun i hi => h.block i (by omega) fun hf => by have := hF i hf; omega⟩
theorem Frm.of_grown {row : Option Nat} (h : w.grownBy w1 row) (hF : ∀ b, row = some b → F b) : Frm F w w1 :=
  ⟨h.os, h.tape, h.output, h.size, fun i hi hn => h.block i hi fun e => hn (hF i e.symm)⟩
theorem Frm.alloc (h : Frm F w w1) (o : Obj) : Frm F w (w1.alloc o) := h.trans' (Frm.of_below ((Below.refl _ _).alloc (Nat.le_refl _) o))
theorem Frm.setCell (h : Frm F w w1) {p : Addr} (hp : F p.block ∨ w.heap.size ≤ p.block) (u : Value) : Frm F w (w1.setCell p u) :=
  h.trans (G := fun b => b = p.block) ⟨rfl, rfl, rfl, by simp [World.setCell], fun k _ hn => Below.heap_setCell _ _ _ _ hn⟩ fun b e => by subst e; exact hp
theorem Frm.cell (h : Frm F w w1) {p : Addr} (hp : p.block < w.heap.size) (hn : ¬ F p.block) : w1.cell? p = w.cell? p := World.cell?_of_block (w := w) (h.block p.block hp hn)
theorem lt_of_some {b : Nat} {o : Obj} (h : w.heap[b]? = some o) : b < w.heap.size := (Array.getElem?_eq_some_iff.1 h).1
theorem Frm.obj (h : Frm F w w1) {b : Nat} {o : Obj} (ho : w.heap[b]? = some o) (hn : ¬ F b) : w1.heap[b]? = some o := (h.block b (lt_of_some ho) hn).trans ho
theorem cell_lt {b j : Nat} {v : Value} (h : w.cell? ⟨b, j, none⟩ = some v) : b < w.heap.size := by
  unfold World.cell? at h
  split at h
  · rename_i hh
    exact (Array.getElem?_eq_some_iff.1 hh).1
  · cases h
theorem maps_frm {H : Type} {P : Program} {k : TypeId} {R : Value → Option (DataW H × List MemPlace)} {b n : Nat} {D : DataW H} (h : w.ownsMap P k R b n D) (hf : Frm F w w1) (hn : ¬ F b) : w1.ownsMap P k R b n D := by
  obtain ⟨es, clock, hb, r⟩ := h
  exact ⟨es, clock, hf.obj hb hn, r⟩
end

/-- A slice that reads as a list of values, none of them in a block of F. -/
def HasF (F : Nat → Prop) (w : World) (A : Option Addr) (n : Nat) (xs : List Value) : Prop :=
  xs.length = n ∧ (0 < n → ∃ b off, A = some ⟨b, off, none⟩ ∧ b < w.heap.size ∧ ¬ F b ∧ ∀ j (h : j < xs.length), w.cell? ⟨b, off + j, none⟩ = some xs[j])
section
variable {F G : Nat → Prop} {w w1 : World} {A : Option Addr} {n : Nat} {xs : List Value}
theorem HasF.has (h : HasF F w A n xs) : Has w w.heap.size A n xs :=
  ⟨h.1, fun h0 => by obtain ⟨b, off, e, hb, _, hc⟩ := h.2 h0; exact ⟨b, off, e, hb, hc⟩⟩
theorem HasF.of (h : Has w w.heap.size A n xs) (hF : ∀ b, F b → False) : HasF F w A n xs :=
  ⟨h.1, fun h0 => by obtain ⟨b, off, e, hb, hc⟩ := h.2 h0; exact ⟨b, off, e, hb, hF b, hc⟩⟩
theorem HasF.of_low {B : Nat} (h : Has w B A n xs) (hB : B ≤ w.heap.size) (hF : ∀ b, F b → B ≤ b) : HasF F w A n xs :=
  ⟨h.1, fun h0 => by obtain ⟨b, off, e, hb, hc⟩ := h.2 h0; exact ⟨b, off, e, by omega, fun hf => by have := hF b hf; omega, hc⟩⟩
theorem HasF.keep (h : HasF F w A n xs) (hf : Frm F w w1) (hG : ∀ b, G b → F b ∨ w.heap.size ≤ b) : HasF G w1 A n xs :=
  ⟨h.1, fun h0 => by
    obtain ⟨b, off, e, hb, hn, hc⟩ := h.2 h0
    exact ⟨b, off, e, by have := hf.size; omega, fun hg => (hG b hg).elim hn (fun h1 => by omega), fun j hj => (hf.cell (p := ⟨b, off + j, none⟩) hb hn).trans (hc j hj)⟩⟩
theorem HasF.less (h : HasF F w A n xs) (hG : ∀ b, G b → F b) : HasF G w A n xs :=
  ⟨h.1, fun h0 => by obtain ⟨b, off, e, hb, hn, hc⟩ := h.2 h0; exact ⟨b, off, e, hb, fun hg => hn (hG b hg), hc⟩⟩
end

theorem hasF_own {w : World} {F : Nat → Prop} {base e m c : Nat} {A : Option Addr} {xs : List Value} (h : w.ownsRow base e 1 (.slice A m c) m xs) (hF : ∀ b, F b → b < base) : HasF F w A m xs := by
  rcases h.2 with ⟨e, hn⟩ | ⟨g, cap, cur, e, hb, hg, hnc, _⟩
  · subst hn
    exact ⟨by simpa using h.1, fun h0 => absurd h0 (by omega)⟩
  · obtain ⟨A', c', e', hh, _⟩ := Has.of_own h
    refine ⟨hh.1, fun h0 => ?_⟩
    obtain ⟨b, off, eb, hlt, hc⟩ := hh.2 h0
    injection e with e1 _ _
    injection e' with e2 _ _
    rw [← e2, e1] at eb
    injection eb with eb
    injection eb with eb1 eb2
    subst eb1
    refine ⟨g, off, by rw [e1]; congr 2, hlt, fun hf => by have := hF g hf; omega, hc⟩

/-- How an element of a map reads whose values are kept as they are. -/
def heldR (v : Value) : Option (DataW Value × List MemPlace) := some (.held v, [])
theorem maps_tight {H : Type} {P : Program} {k : TypeId} {R : Value → Option (DataW H × List MemPlace)} {w : World} {b n : Nat} {D : DataW H} (h : w.ownsMap P k R b n D) (m : Nat) (hm : Maps.size D ≤ m) : w.ownsMap P k R b m D := by
  obtain ⟨es, clock, hb, F, hs, rfl⟩ := h
  exact ⟨es, clock, hb, F, by simpa [Maps.size, length_read] using hm, rfl⟩
end

section
open Go.RowKit

/-- Slices of bytes, none of them in a block of H. -/
def ManyF (H : Nat → Prop) (w : World) (vs : List Value) (ps : List (List UInt8)) : Prop :=
  vs.length = ps.length ∧ ∀ (i : Nat) (v : Value) (p : List UInt8), vs[i]? = some v → ps[i]? = some p → ∃ A c, v = .slice A p.length c ∧ (A = none → c = 0) ∧ p.length ≤ c ∧ HasF H w A p.length (p.map bv)
theorem ManyF.weak {H : Nat → Prop} {w : World} {vs : List Value} {ps : List (List UInt8)} (h : ManyF H w vs ps) : ManyH w vs ps :=
  ⟨h.1, fun i v p h1 h2 => by
    obtain ⟨A, c, e, g1, g2, g3⟩ := h.2 i v p h1 h2
    exact ⟨A, c, e, g1, g2, g3.has⟩⟩
theorem ManyF.keep {F G : Nat → Prop} {w w1 : World} {vs : List Value} {ps : List (List UInt8)} (h : ManyF F w vs ps) (hf : Frm F w w1) (hG : ∀ b, G b → F b ∨ w.heap.size ≤ b) : ManyF G w1 vs ps :=
  ⟨h.1, fun i v p h1 h2 => by
    obtain ⟨A, c, e, g1, g2, g3⟩ := h.2 i v p h1 h2
    exact ⟨A, c, e, g1, g2, g3.keep hf hG⟩⟩
theorem ManyF.less {F G : Nat → Prop} {w : World} {vs : List Value} {ps : List (List UInt8)} (h : ManyF F w vs ps) (hG : ∀ b, G b → F b) : ManyF G w vs ps :=
  ⟨h.1, fun i v p h1 h2 => by
    obtain ⟨A, c, e, g1, g2, g3⟩ := h.2 i v p h1 h2
    exact ⟨A, c, e, g1, g2, g3.less hG⟩⟩
/-- The blocks that are not between lo and hi. -/
def Out (lo hi : Nat) : Nat → Prop := fun b => b < lo ∨ hi ≤ b
theorem hasF_out {w : World} {base e m c : Nat} {A : Option Addr} {xs : List Value} (h : w.ownsRow base e 1 (.slice A m c) m xs) : HasF (Out base w.heap.size) w A m xs := by
  rcases h.2 with ⟨e, hn⟩ | ⟨g, cap, cur, e, hb, hg, hnc, _⟩
  · subst hn
    exact ⟨by simpa using h.1, fun h0 => absurd h0 (by omega)⟩
  · obtain ⟨A', c', e', hh, _⟩ := Has.of_own h
    refine ⟨hh.1, fun h0 => ?_⟩
    obtain ⟨b, off, eb, hlt, hc⟩ := hh.2 h0
    injection e with e1 _ _
    injection e' with e2 _ _
    rw [← e2, e1] at eb
    injection eb with eb
    injection eb with eb1 eb2
    subst eb1
    exact ⟨g, off, by rw [e1]; congr 2, hlt, fun hf => by unfold Out at hf; omega, hc⟩
theorem Many.out {B : Nat} {w : World} {vs : List Value} {ps : List (List UInt8)} (h : Many B w vs ps) : ManyF (Out B w.heap.size) w vs ps :=
  ⟨h.1, fun i v p h1 h2 => by
    obtain ⟨A, c, e, g1, g2, g3, g4⟩ := h.2 i v p h1 h2
    refine ⟨A, c, e, g1, g2, g3.1, fun h0 => ?_⟩
    obtain ⟨b, off, e1, hb, hc⟩ := g3.2 h0
    obtain ⟨b', off', cs, fr, e2, hl, _⟩ := g4 h0
    rw [e1] at e2
    injection e2 with e2
    injection e2 with e2 e3 _
    subst e2
    exact ⟨b, off, e1, hb, fun hf => by unfold Out at hf; omega, hc⟩⟩

/-- A list of slices of bytes that lies between the blocks lo and hi. -/
def NewR (lo hi : Nat) (w : World) (lv : Value) (ps : List (List UInt8)) : Prop :=
  ∃ A c vs, lv = .slice A ps.length c ∧ (A = none → c = 0) ∧ ps.length ≤ c ∧ HasF (Out lo hi) w A ps.length vs ∧ ManyF (Out lo hi) w vs ps
theorem NewR.nil (lo hi : Nat) (w : World) : NewR lo hi w (.slice none 0 0) [] := ⟨none, 0, [], rfl, fun _ => rfl, Nat.le_refl _, ⟨rfl, fun h => absurd h (by simp)⟩, ⟨rfl, fun i v p h => by simp at h⟩⟩
theorem NewR.of_scan {B : Nat} {w : World} {v : Value} {vs : List Value} {ps : List (List UInt8)} (h : w.ownsRow B 37 1 v ps.length vs) (hM : Many B w vs ps) : NewR B w.heap.size w v ps := by
  obtain ⟨A, c, rfl, _, hc⟩ := Has.of_own h
  exact ⟨A, c, vs, rfl, of_own_none h, hc, hasF_out h, hM.out⟩
theorem NewR.keep {lo hi : Nat} {F : Nat → Prop} {w w1 : World} {lv : Value} {ps : List (List UInt8)} (h : NewR lo hi w lv ps) (hf : Frm F w w1) (hF : ∀ b, F b → b < lo ∨ hi ≤ b) : NewR lo hi w1 lv ps := by
  obtain ⟨A, c, vs, e, h1, h2, h3, h4⟩ := h
  have hf' : Frm (Out lo hi) w w1 := hf.more fun b hb _ => hF b hb
  exact ⟨A, c, vs, e, h1, h2, h3.keep hf' fun b hb => .inl hb, h4.keep hf' fun b hb => .inl hb⟩
theorem NewR.mono {lo hi lo' hi' : Nat} {w : World} {lv : Value} {ps : List (List UInt8)} (h : NewR lo hi w lv ps) (h1 : lo' ≤ lo) (h2 : hi ≤ hi') : NewR lo' hi' w lv ps := by
  obtain ⟨A, c, vs, e, g1, g2, g3, g4⟩ := h
  have hx : ∀ b, Out lo' hi' b → Out lo hi b := fun b hb => by unfold Out at hb ⊢; omega
  exact ⟨A, c, vs, e, g1, g2, g3.less hx, g4.less hx⟩
theorem NewR.rows {lo hi : Nat} {w : World} {lv : Value} {ps : List (List UInt8)} (h : NewR lo hi w lv ps) : ∃ A c vs, lv = .slice A ps.length c ∧ Has w w.heap.size A ps.length vs ∧ ManyH w vs ps := by
  obtain ⟨A, c, vs, e, _, _, g3, g4⟩ := h
  exact ⟨A, c, vs, e, g3.has, g4.weak⟩
theorem frm_set (w : World) (b j : Nat) (v : Value) : Frm (fun x => x = b) w (w.setCell ⟨b, j, none⟩ v) := (Frm.refl (fun x => x = b) w).setCell (p := ⟨b, j, none⟩) (.inl rfl) v
theorem byte_zero (y : UInt8) : ((y.toNat : Int) == 0) = (y == 0) := by
  by_cases h : y = 0
  · subst h; rfl
  · rw [show (y == 0) = false by simpa using h, beq_eq_false_iff_ne]
    intro e
    exact h (UInt8.toNat_inj.1 (by show y.toNat = 0; omega))

theorem hasF_zeros {F : Nat → Prop} (w : World) (n : Nat) (hF : ¬ F w.heap.size) : HasF F (w.alloc (.cells (zeros n) 5)) (some ⟨w.heap.size, 0, none⟩) n ((List.replicate n (0 : UInt8)).map bv) := by
  have h := Has.laid w 5 (zeros n) (0, 0) n ((List.replicate n (0 : UInt8)).map bv) (by simp [zeros, bv]) (by simp)
  exact ⟨h.1, fun h0 => by
    obtain ⟨b, off, e, hb, hc⟩ := h.2 h0
    injection e with e
    injection e with e1 e2 _
    subst e1 e2
    exact ⟨_, _, rfl, by show w.heap.size < (w.heap.push _).size; simp, hF, hc⟩⟩
end

end Go.Proofs.YtngomoolmncbaaaGreat
