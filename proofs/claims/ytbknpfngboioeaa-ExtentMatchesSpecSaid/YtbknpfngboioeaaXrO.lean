/-
  The operations of a script of layer 6 that came in, read; contracts of its small.
-/
import Derived.Test.YtbknpfngboioeaaDkJ
namespace Go.Proofs.Ytbknpfngboioeaa
open Go.RowKit Go.ChangeShapes Go.WideShapes Go.Deep

theorem len8 {α : Type} {l : List α} (h : l.length = 8) : ∃ a b c d e f g i, l = [a, b, c, d, e, f, g, i] := by
  match l, h with
  | [a, b, c, d, e, f, g, i], _ => exact ⟨a, b, c, d, e, f, g, i, rfl⟩
theorem len7 {α : Type} {l : List α} (h : l.length = 7) : ∃ a b c d e f g, l = [a, b, c, d, e, f, g] := by
  match l, h with
  | [a, b, c, d, e, f, g], _ => exact ⟨a, b, c, d, e, f, g, rfl⟩
theorem len2 {α : Type} {l : List α} (h : l.length = 2) : ∃ a b, l = [a, b] := by
  match l, h with
  | [a, b], _ => exact ⟨a, b, rfl⟩

/-- An operation of a script as it came in. -/
structure XOpV where
  kind : Int
  first : Int
  count : Int
  off : Int
  num : Int
  A8 : Option Addr
  n8 : Nat
  c8 : Nat
  l : List UInt8
  Af : Option Addr
  nf : Nat
  cf : Nat
  fs : List (Int × Int)
  Ak : Option Addr
  nk : Nat
  ck : Nat
  ks : List (Int × Int)
def I64 (z : Int) : Prop := -9223372036854775808 ≤ z ∧ z ≤ 9223372036854775807
structure XOpIn (w : World) (o : XOpV) : Prop where
  bk : I64 o.kind
  bf : I64 o.first
  bc : I64 o.count
  bo : I64 o.off
  bn : I64 o.num
  a8 : Arg8 w o.A8 o.n8 o.c8 o.l
  fl : PairsF noF w o.Af o.nf o.fs ∧ (o.Af = none → o.cf = 0) ∧ o.nf ≤ maxLen
  p : PairsF noF w o.Ak o.nk o.ks ∧ (o.Ak = none → o.ck = 0) ∧ o.nk ≤ maxLen
/-- What stands in its cells. -/
def XCells (w : World) (b o : Nat) (x : XOpV) : Prop :=
  w.cell? ⟨b, o, none⟩ = some (.int .i64 x.kind) ∧ w.cell? ⟨b, o + 1, none⟩ = some (.int .i64 x.first) ∧ w.cell? ⟨b, o + 2, none⟩ = some (.int .i64 x.count) ∧ w.cell? ⟨b, o + 3, none⟩ = some (.int .i64 x.off) ∧ w.cell? ⟨b, o + 4, none⟩ = some (.int .i64 x.num) ∧
    w.cell? ⟨b, o + 5, none⟩ = some (.slice x.A8 x.n8 x.c8) ∧ w.cell? ⟨b, o + 6, none⟩ = some (.slice x.Af x.nf x.cf) ∧ w.cell? ⟨b, o + 7, none⟩ = some (.slice x.Ak x.nk x.ck)
/-- A script that came in. -/
def XOpsIn (w : World) (A : Option Addr) (n : Nat) (os : List XOpV) : Prop :=
  os.length = n ∧ (0 < n → ∃ b off, A = some ⟨b, off, none⟩ ∧ b < w.heap.size ∧ ∀ j (h : j < os.length), XOpIn w os[j] ∧ XCells w b (off + j * 8) os[j])

section
variable {H : Type} {enc : TypeId × Value → H} {w : World} {held : Bool}
set_option maxRecDepth 100000 in
theorem open_xops {fuel : Nat} {A : Option Addr} {n c : Nat} {x : DataW H × List MemPlace} (h : DataW.trod enc Try.prog w 0 (fun _ => true) held fuel 47 [.slice A n c] = some x) : ∃ os, XOpsIn w A n os ∧ n ≤ maxLen := by
  rcases open_slice Try.underlying47 h with ⟨hcs, _⟩ | ⟨a, len, cap, m, q, D, Pl, hcs, _, hl, hm, hmm, _, hx⟩
  · simp at hcs
    obtain ⟨rfl, rfl, rfl⟩ := hcs
    exact ⟨[], ⟨rfl, fun h => absurd h (by omega)⟩, Nat.zero_le _⟩
  · simp at hcs
    obtain ⟨rfl, rfl, rfl⟩ := hcs
    have hC : Try.prog.cellsOf 52 = 8 := by kernel_rfl
    have hnm : n ≤ m := by rw [hmm]; simp; omega
    have each : ∀ i, i < m → ∃ o : XOpV, XOpIn w o ∧ ∀ j v, ([.int .i64 o.kind, .int .i64 o.first, .int .i64 o.count, .int .i64 o.off, .int .i64 o.num, .slice o.A8 o.n8 o.c8, .slice o.Af o.nf o.cf, .slice o.Ak o.nk o.ck] : List Value)[j]? = some v → w.cell? (a.add (i * 8 + j)) = some v := by
      intro i hi
      obtain ⟨cs', hc, ht'⟩ := hx i hi
      rw [hC] at hc
      obtain ⟨_, hcl, hat⟩ := World.cells?_some hc
      obtain ⟨ys, n', hn', hy, hlen, hyl, hf⟩ := DataW.trod_struct Try.underlying52 ht'
      obtain ⟨v0, v1, v2, v3, v4, v5, v6, v7, rfl⟩ := len8 hcl
      obtain ⟨y0, y1, y2, y3, y4, y5, y6, rfl⟩ := len7 hyl
      have k0 : Try.prog.cellsOf 3 = 1 := by kernel_rfl
      have k1 : Try.prog.cellsOf 50 = 2 := by kernel_rfl
      have k2 : Try.prog.cellsOf 32 = 1 := by kernel_rfl
      have k3 : Try.prog.cellsOf 33 = 1 := by kernel_rfl
      have k4 : Try.prog.cellsOf 34 = 1 := by kernel_rfl
      have t0 : DataW.trod enc Try.prog w 0 (fun _ => true) held n' 3 [v0] = some y0 := by
        have := hf 0 _ rfl
        change DataW.trod _ _ _ _ _ _ _ 3 (List.take (Try.prog.cellsOf 3) _) = _ at this
        rw [k0] at this
        exact this
      have t1 : DataW.trod enc Try.prog w 0 (fun _ => true) held n' 50 [v1, v2] = some y1 := by
        have := hf 1 _ rfl
        change DataW.trod _ _ _ _ _ _ _ 50 (List.take (Try.prog.cellsOf 50) _) = _ at this
        rw [k1] at this
        exact this
      have t2 : DataW.trod enc Try.prog w 0 (fun _ => true) held n' 3 [v3] = some y2 := by
        have := hf 2 _ rfl
        change DataW.trod _ _ _ _ _ _ _ 3 (List.take (Try.prog.cellsOf 3) _) = _ at this
        rw [k0] at this
        exact this
      have t3 : DataW.trod enc Try.prog w 0 (fun _ => true) held n' 3 [v4] = some y3 := by
        have := hf 3 _ rfl
        change DataW.trod _ _ _ _ _ _ _ 3 (List.take (Try.prog.cellsOf 3) _) = _ at this
        rw [k0] at this
        exact this
      have t4 : DataW.trod enc Try.prog w 0 (fun _ => true) held n' 32 [v5] = some y4 := by
        have := hf 4 _ rfl
        change DataW.trod _ _ _ _ _ _ _ 32 (List.take (Try.prog.cellsOf 32) _) = _ at this
        rw [k2] at this
        exact this
      have t5 : DataW.trod enc Try.prog w 0 (fun _ => true) held n' 33 [v6] = some y5 := by
        have := hf 5 _ rfl
        change DataW.trod _ _ _ _ _ _ _ 33 (List.take (Try.prog.cellsOf 33) _) = _ at this
        rw [k3] at this
        exact this
      have t6 : DataW.trod enc Try.prog w 0 (fun _ => true) held n' 34 [v7] = some y6 := by
        have := hf 6 _ rfl
        change DataW.trod _ _ _ _ _ _ _ 34 (List.take (Try.prog.cellsOf 34) _) = _ at this
        rw [k4] at this
        exact this
      obtain ⟨zs, n2, _, _, _, hzl, hg⟩ := DataW.trod_struct Try.underlying50 t1
      obtain ⟨z0, z1, rfl⟩ := len2 hzl
      have s0 : DataW.trod enc Try.prog w 0 (fun _ => true) held n2 3 [v1] = some z0 := by
        have := hg 0 _ rfl
        change DataW.trod _ _ _ _ _ _ _ 3 (List.take (Try.prog.cellsOf 3) _) = _ at this
        rw [k0] at this
        exact this
      have s1 : DataW.trod enc Try.prog w 0 (fun _ => true) held n2 3 [v2] = some z1 := by
        have := hg 1 _ rfl
        change DataW.trod _ _ _ _ _ _ _ 3 (List.take (Try.prog.cellsOf 3) _) = _ at this
        rw [k0] at this
        exact this
      obtain ⟨x0, r0, _, w0⟩ := DataW.trod_int tyInt t0
      obtain ⟨x1, r1, _, w1⟩ := DataW.trod_int tyInt s0
      obtain ⟨x2, r2, _, w2⟩ := DataW.trod_int tyInt s1
      obtain ⟨x3, r3, _, w3⟩ := DataW.trod_int tyInt t2
      obtain ⟨x4, r4, _, w4⟩ := DataW.trod_int tyInt t3
      obtain ⟨A5, n5, c5, rfl⟩ := trod_slice_val tyBs t4
      obtain ⟨A6, n6, c6, rfl⟩ := trod_slice_val Try.underlying33 t5
      obtain ⟨A7, n7, c7, rfl⟩ := trod_slice_val Try.underlying34 t6
      obtain ⟨l, hl8⟩ := open8 t4
      obtain ⟨fs, hfs⟩ := open_flt t5
      obtain ⟨ks, hks⟩ := open_kps t6
      simp at r0 r1 r2 r3 r4
      subst r0 r1 r2 r3 r4
      refine ⟨⟨x0, x1, x2, x3, x4, A5, n5, c5, l, A6, n6, c6, fs, A7, n7, c7, ks⟩, ⟨bounds_i64 w0, bounds_i64 w1, bounds_i64 w2, bounds_i64 w3, bounds_i64 w4, hl8, hfs, hks⟩, fun j v hj => ?_⟩
      have hjl : j < 8 := (List.getElem?_eq_some_iff.1 hj).1
      have e := hat j (by omega)
      rw [Go.Deep.add_add] at e
      rw [e]
      exact hj
    have hall : ∃ f : Nat → XOpV, ∀ i, i < m → XOpIn w (f i) ∧ ∀ j v, ([.int .i64 (f i).kind, .int .i64 (f i).first, .int .i64 (f i).count, .int .i64 (f i).off, .int .i64 (f i).num, .slice (f i).A8 (f i).n8 (f i).c8, .slice (f i).Af (f i).nf (f i).cf, .slice (f i).Ak (f i).nk (f i).ck] : List Value)[j]? = some v → w.cell? (a.add (i * 8 + j)) = some v := by
      refine ⟨fun i => if hi : i < m then Classical.choose (each i hi) else ⟨0, 0, 0, 0, 0, none, 0, 0, [], none, 0, 0, [], none, 0, 0, []⟩, fun i hi => ?_⟩
      simp only [dif_pos hi]
      exact Classical.choose_spec (each i hi)
    obtain ⟨f, hf⟩ := hall
    refine ⟨(List.range n).map f, ⟨by simp, fun h0 => ?_⟩, by omega⟩
    obtain ⟨ea, hlt⟩ := spot_of (a := a) (by simpa using (hf 0 (by omega)).2 0 _ rfl)
    refine ⟨a.block, a.off, by rw [← ea], hlt, fun j hj => ?_⟩
    have hj' : j < n := by simpa using hj
    obtain ⟨g0, g1⟩ := hf j (by omega)
    rw [ea] at g1
    simp only [add_flat] at g1
    simp only [List.getElem_map, List.getElem_range]
    have g2 : ∀ i v, ([.int .i64 (f j).kind, .int .i64 (f j).first, .int .i64 (f j).count, .int .i64 (f j).off, .int .i64 (f j).num, .slice (f j).A8 (f j).n8 (f j).c8, .slice (f j).Af (f j).nf (f j).cf, .slice (f j).Ak (f j).nk (f j).ck] : List Value)[i]? = some v → w.cell? ⟨a.block, a.off + j * 8 + i, none⟩ = some v := fun i v h => by rw [Nat.add_assoc]; exact g1 i v h
    exact ⟨g0, g2 0 _ rfl, g2 1 _ rfl, g2 2 _ rfl, g2 3 _ rfl, g2 4 _ rfl, g2 5 _ rfl, g2 6 _ rfl, g2 7 _ rfl⟩
end

def XSmall (o : XOpV) : Prop := o.n8 ≤ 1000 ∧ o.nf ≤ 66 ∧ o.nk ≤ 80
def XSmallQ (m : Nat) (os : List XOpV) (w : World) (e : Ending) (w' : World) : Prop := ∃ b, e = .returned (.bool b) ∧ (b = true → m ≤ 40 ∧ ∀ j (h : j < os.length), XSmall os[j]) ∧ w = w'
set_option maxRecDepth 20000 in
set_option maxHeartbeats 1600000 in
theorem xsmall_any (A : Option Addr) (m c : Nat) (os : List XOpV) (w : World) (h : XOpsIn w A m os) :
    Calls Try.prog 26 #[.slice A m c] w (XSmallQ m os w) := by
  have HO := Lib.hid h
  clear h
  by_cases h80 : (40 : Int) < m
  · go_enter Try.func26, Try.ntmps26
    go_wp2
    go_ret
    exact ⟨false, rfl, fun h => (by cases h), rfl⟩
  · have hm80 : Hid (m ≤ 40) := by show _ ≤ _; omega
    go_enter Try.func26, Try.ntmps26
    go_wp2
    go_loop [3] (fun i => ∃ k : Nat, k ≤ m ∧ i = .int .i64 k ∧ Hid (∀ j (h : j < os.length), j < k → XSmall os[j])) (fun i => m - (RowKit.intOf i).toNat)
    case atStart => exact ⟨0, Nat.zero_le _, rfl, fun j h hj => absurd hj (by omega)⟩
    case round =>
      obtain ⟨k, hk, rfl, HR⟩ := hrel
      have hkb : (k : Int) ≤ 40 := by have := hm80.out; omega
      by_cases hlt : k < m
      · obtain ⟨b, off, rfl, hbw, hc⟩ := HO.out.2 (by omega)
        have hkf : k < os.length := by rw [HO.out.1]; exact hlt
        obtain ⟨e2, e3, e4⟩ := (hc k hkf).2.2.2.2.2.2
        have hstep : Hid (∀ j (h : j < os.length), j < k + 1 → XSmall os[k] → XSmall os[j]) := fun j h hj hs => by
          by_cases hjk : j = k
          · subst hjk; exact hs
          · exact HR.out j h (by omega)
        have hdef : Hid (XSmall os[k] ↔ os[k].n8 ≤ 1000 ∧ os[k].nf ≤ 66 ∧ os[k].nk ≤ 80) := Iff.rfl
        generalize os[k] = o at e2 e3 e4 hstep hdef
        obtain ⟨_, _, _, _, _, A8, n8, c8, _, Af, nf, cf, _, Ak, nk, ck, _⟩ := o
        simp only [] at e2 e3 e4 hdef
        clear hc hkf
        by_cases h8 : (1000 : Int) < n8
        · have h8' : decide ((1000 : Int) < n8) = true := by simpa using h8
          go_wp2_with (go_at_call 45; refine (smallFaults_any _ _ _ _).mono ?_; rintro e w' ⟨rfl, rfl⟩)
          go_ret
          exact ⟨false, rfl, fun h => (by cases h), rfl⟩
        · have h8' : decide ((1000 : Int) < n8) = false := by simpa using h8
          by_cases hf : (nf : Int) ≤ 66
          · have hf' : decide ((nf : Int) ≤ 66) = true := by simpa using hf
            by_cases hkk : (80 : Int) < nk
            · go_wp2_with (go_at_call 45; refine (smallFaults_any _ _ _ _).mono ?_; rintro e w' ⟨rfl, rfl⟩; rw [hf'])
              go_ret
              exact ⟨false, rfl, fun h => (by cases h), rfl⟩
            · have hs : Hid (n8 ≤ 1000 ∧ nf ≤ 66 ∧ nk ≤ 80) := by show _ ∧ _; omega
              go_wp2_with (go_at_call 45; refine (smallFaults_any _ _ _ _).mono ?_; rintro e w' ⟨rfl, rfl⟩; rw [hf'])
              go_round
              case rel => exact ⟨k + 1, by omega, by go_num, fun j h hj => hstep.out j h hj (hdef.out.2 hs.out)⟩
              case measure => simp [RowKit.intOf]; omega
          · have hf' : decide ((nf : Int) ≤ 66) = false := by simpa using hf
            go_wp2_with (go_at_call 45; refine (smallFaults_any _ _ _ _).mono ?_; rintro e w' ⟨rfl, rfl⟩; rw [hf'])
            go_ret
            exact ⟨false, rfl, fun h => (by cases h), rfl⟩
      · go_wp2
        go_ret
        exact ⟨true, rfl, fun _ => ⟨hm80.out, fun j h => HR.out j h (by have := HO.out.1; omega)⟩, rfl⟩


end Go.Proofs.Ytbknpfngboioeaa
