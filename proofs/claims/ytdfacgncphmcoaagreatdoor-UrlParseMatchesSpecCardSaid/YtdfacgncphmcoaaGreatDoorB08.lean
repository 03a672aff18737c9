/-
Hosts in memory: the value of a host, its variable as one row; the program's constructors.
Contract of Parse of the reference of layer 11.
Digits laid in front of a string: no function of the program.
Contracts of hexText and Format of the reference of layer 11 (written by tools/gen-I64.py).
What every walk of a statement ends in. No program.
The powers of ten that Go's own library reads lie in the world; what is made beside them leaves them there.
The tables that Go's own library reads to append a number, to the base 10 or 16, lie in the world; what is made beside them leaves them there.
What is asked of package ipv6's functions, in plain words; equality of arrays.
Equality of hosts.
-/
import Derived.Test.YtdfacgncphmcoaaGreatDoorB04
import Derived.Test.YtdfacgncphmcoaaGreatDoorB07
import Derived.Test.YtdfacgncphmcoaaGreatDoorB06
import Derived.Laws.ResultCell
import Derived.Laws.Rows
import Derived.Test.YtdfacgncphmcoaaGreatDoorB03
import Derived.Test.YtdfacgncphmcoaaGreatDoorB00
import Derived.Test.YtdfacgncphmcoaaGreatDoorRows
import Derived.Below
import Derived.Lib.LaidTab
import Derived.Lib.ItoaNum
import Derived.ChangeKeysEq
import Derived.Deep.Cut
import Derived.Laws.StructEq
namespace Go.Proofs.YtdfacgncphmcoaaGreatDoor
section
open Go.RowKit
/-- The cells of a host. -/
def hc (k : Int) (n : ByteArray) (v : Int) (g : List Nat) : Array Value :=
  #[.int .i64 k, .string n, .int .u32 v, .int .u16 ((g.getD 0 0 : Nat) : Int), .int .u16 ((g.getD 1 0 : Nat) : Int), .int .u16 ((g.getD 2 0 : Nat) : Int), .int .u16 ((g.getD 3 0 : Nat) : Int),
    .int .u16 ((g.getD 4 0 : Nat) : Int), .int .u16 ((g.getD 5 0 : Nat) : Int), .int .u16 ((g.getD 6 0 : Nat) : Int), .int .u16 ((g.getD 7 0 : Nat) : Int)]
theorem hc_one (k : Int) (n : ByteArray) (v : Int) (g : List Nat) : (hc k n v g).all (·.oneCell') = true := by
  simp [hc, Value.oneCell']
def Hv.cells (h : Hv) : Array Value := hc h.kind (bs h.name) (h.v4 : Nat) h.v6
def Hv.val (h : Hv) : Value := .agg h.cells
theorem hostUnd : (Tryz.prog.underlying 27).map (fun d => match d with | .struct _ | .array _ _ => true | _ => false) = some true := by kernel_rfl
theorem hostSize : (Tryz.prog.info? 27).map (·.size) = some 11 := by kernel_rfl
/-- A host's variable. -/
def RowH (w : World) (b : Nat) (c : Array Value) : Prop := Row w b 27 c
theorem load_host {w : World} {b : Nat} {c : Array Value} (h : RowH w b c) (hc : c.size = 11) : (loadVar 27 ⟨b, 0, none⟩).run Tryz.prog w = .ok (.agg c) w := by
  have hu := hostUnd
  obtain ⟨d, hd⟩ : ∃ d, Tryz.prog.underlying 27 = some d := by
    cases hx : Tryz.prog.underlying 27 with
    | none => rw [hx] at hu; cases hu
    | some d => exact ⟨d, rfl⟩
  rw [hd] at hu
  cases d <;> first
    | exact run_loadVar_row (P := Tryz.prog) w b _ _ c (0, 0) _ h hd rfl (by rw [hc]; exact hostSize)
    | cases hu
theorem wpList_load_host {ops : Array Oper} {rest : List Oper} {o : Oper} {a : Act} {w : World} {Q : Exit → Act → World → Prop} (hgd : o.guard = none) (x : Operand) (ho : o.op = .load 27 x)
    (g : Nat) (hx : a.eval x = .pointer (some ⟨g, 0, none⟩)) (c : Array Value) (h0 : RowH w g c) (hc : c.size = 11)
    (h : wpList Tryz.prog ops Q rest (a.put o.dst (.agg c)) w) : wpList Tryz.prog ops Q (o :: rest) a w := by
  have hu := hostUnd
  obtain ⟨d, hd⟩ : ∃ d, Tryz.prog.underlying 27 = some d := by
    cases hx : Tryz.prog.underlying 27 with
    | none => rw [hx] at hu; cases hu
    | some d => exact ⟨d, rfl⟩
  rw [hd] at hu
  cases d <;> first
    | exact wpList_load_row hgd _ x ho g hx _ c (0, 0) _ h0 hd rfl (by rw [hc]; exact hostSize) h
    | cases hu
theorem ret_host {fn : Func} {R : Ending → World → Prop} {a : Act} {w : World} (p u : Tmp) (hres : fn.results = #[.cell p 27, .tmp u]) (b : Nat) (hp : a.tmps.getD p undef = .pointer (some ⟨b, 0, none⟩))
    (c : Array Value) (hrow : RowH w b c) (hc : c.size = 11) (v : Value) (hv : a.tmps.getD u undef = v) (hd : a.defers = []) (hR : R (.returned (.tuple #[.agg c, v])) w) : bodyPost Tryz.prog fn R .ret a w := by
  refine bodyPost_ret (v := .tuple #[.agg c, v]) ?_ hd hR
  rw [results_cell_tmp hres, hp, hv]
  simp [asAddr, Result.andThen, load_host hrow hc]
theorem ret_host1 {fn : Func} {R : Ending → World → Prop} {a : Act} {w : World} (p : Tmp) (hres : fn.results = #[.cell p 27]) (b : Nat) (hp : a.tmps.getD p undef = .pointer (some ⟨b, 0, none⟩))
    (c : Array Value) (hrow : RowH w b c) (hc : c.size = 11) (hd : a.defers = []) (hR : R (.returned (.agg c)) w) : bodyPost Tryz.prog fn R .ret a w := by
  refine bodyPost_ret (v := .agg c) ?_ hd hR
  have hp' : a.tmps[p]?.getD undef = .pointer (some ⟨b, 0, none⟩) := by simpa using hp
  simp [results, hres, hp', asAddr, load_host hrow hc]
theorem domainHost_any (s : ByteArray) (w : World) : Calls Tryz.prog 68 #[.string s] w fun e w' => e = .returned (.agg (hc 1 s 0 z8)) ∧ Below w.heap.size w w' := by
  go_enter Tryz.func68, Tryz.ntmps68
  go_wp2
  exact ret_host1 2 rfl w.heap.size rfl (hc 1 s 0 z8) (row_new w _ _) rfl rfl ⟨rfl, (Below.refl _ _).alloc (Nat.le_refl _) _⟩
theorem ipv4Host_any (v : Int) (w : World) : Calls Tryz.prog 70 #[.int .u32 v] w fun e w' => e = .returned (.agg (hc 2 ⟨#[]⟩ v z8)) ∧ Below w.heap.size w w' := by
  go_enter Tryz.func70, Tryz.ntmps70
  go_wp2
  exact ret_host1 2 rfl w.heap.size rfl (hc 2 ⟨#[]⟩ v z8) (row_new w _ _) rfl rfl ⟨rfl, (Below.refl _ _).alloc (Nat.le_refl _) _⟩
theorem ipv6Host_any (g : List Nat) (hg : g.length = 8) (w : World) : Calls Tryz.prog 71 #[.agg (av g)] w fun e w' => e = .returned (.agg (hc 3 ⟨#[]⟩ 0 g)) ∧ Below w.heap.size w w' := by
  match g, hg with
  | [a, b, c, d, x, f, i, j], _ =>
    rw [show av [a, b, c, d, x, f, i, j] = #[.int .u16 (a : Int), .int .u16 (b : Int), .int .u16 (c : Int), .int .u16 (d : Int), .int .u16 (x : Int), .int .u16 (f : Int), .int .u16 (i : Int), .int .u16 (j : Int)] from rfl]
    go_enter Tryz.func71, Tryz.ntmps71
    go_wp2
    refine ret_host1 2 rfl (w.heap.size + 1) rfl (hc 3 ⟨#[]⟩ 0 [a, b, c, d, x, f, i, j]) ?_ rfl rfl ⟨rfl, ((Below.refl _ _).alloc (Nat.le_refl _) _).alloc (by simp) _⟩
    have := row_new (w.alloc (.cells #[.int .u16 (a : Int), .int .u16 (b : Int), .int .u16 (c : Int), .int .u16 (d : Int), .int .u16 (x : Int), .int .u16 (f : Int), .int .u16 (i : Int), .int .u16 (j : Int)] 25)) (hc 3 ⟨#[]⟩ 0 [a, b, c, d, x, f, i, j]) 27
    rw [World.size_alloc] at this
    exact this
end

section
open Go.RowKit
/-- An address as cells: zeros where there is none. -/
def arr6 (o : Option (List Nat)) : List Nat := o.getD (zerosN 8)
theorem zeros8_length : (zerosN 8).length = 8 := rfl
theorem dbl_bound : ∀ (l : List UInt8) (i k : Nat), dblGo l i = some k → i ≤ k ∧ k + 2 ≤ i + l.length
  | [], _, _, h => by cases h
  | [_], _, _, h => by cases h
  | a :: b :: r, i, k, h => by
    rw [dblGo] at h
    split at h
    · simp only [Option.some.injEq] at h; subst h; simp
    · have := dbl_bound (b :: r) (i + 1) k h
      simp at this ⊢; omega
theorem own_slice6 {w : World} {base n : Nat} {v : Value} {g : List Nat} (h : w.ownsRow base 24 1 v n (uv g)) : ∃ A c, v = .slice A n c ∧ n ≤ c ∧ ∀ j, j < n → ∃ gb, A = some ⟨gb, 0, none⟩ ∧ base ≤ gb ∧ gb < w.heap.size ∧ w.cell? ⟨gb, j, none⟩ = some (.int .u16 ((g.getD j 0 : Nat) : Int)) := by
  have hx := h
  rcases h.2 with ⟨rfl, h0⟩ | ⟨gb, cap, cur, rfl, hb, hg, hnc, _⟩
  · subst h0
    exact ⟨none, 0, rfl, Nat.le_refl _, fun j hj => by omega⟩
  · refine ⟨_, cap, rfl, hnc, fun j hj => ⟨gb, rfl, hb, ?_, ?_⟩⟩
    · exact (Array.getElem?_eq_some_iff.1 hg).1
    · obtain ⟨g', cap', hv, _, hlt, hc⟩ := owns_cell hx (by omega)
      injection hv with hv1 hv2 hv3
      injection hv1 with hv1
      injection hv1 with e1 _ _
      subst e1
      have hl : (uv g).length = n := by simpa using hx.1
      have := hc j (by omega)
      rw [this]
      rw [uv_length] at hl
      simp [uv, List.getD_eq_getElem?_getD, List.getElem?_eq_getElem (show j < g.length by omega)]
/-- What the loops keep. -/
structure PA (w W2 w3 wr : World) (a1 r1 : Nat) (C : List Nat) : Prop where
  ra : RowA wr a1 C
  rr : RowA wr r1 (zerosN 8)
  len : C.length = 8
  old : ∀ gb, W2.heap.size ≤ gb → gb < w3.heap.size → wr.heap[gb]? = w3.heap[gb]?
  bel : Below w.heap.size w wr
theorem PA.cell {w W2 w3 wr : World} {a1 r1 : Nat} {C : List Nat} (h : PA w W2 w3 wr a1 r1 C) {gb j : Nat} {v : Value} (h1 : W2.heap.size ≤ gb) (h2 : gb < w3.heap.size) (hc : w3.cell? ⟨gb, j, none⟩ = some v) : wr.cell? ⟨gb, j, none⟩ = some v := by
  rw [← hc]
  unfold World.cell?
  rw [h.old gb h1 h2]
theorem PA.set {w W2 w3 wr w' : World} {a1 r1 k x : Nat} {C : List Nat} (h : PA w W2 w3 wr a1 r1 C) (ha : a1 < W2.heap.size) (hne : r1 ≠ a1) (hw : w.heap.size ≤ a1)
    (hr : Row w' a1 25 ((av C).setIfInBounds k (.int .u16 (x : Int)))) (hg : wr.grownBy w' (some a1)) : PA w W2 w3 w' a1 r1 (C.set k x) := by
  refine ⟨?_, h.rr.grown hg hne, by simp [h.len], fun gb h1 h2 => ?_, below_row h.bel hg (Nat.le_refl _) hw⟩
  · rw [av_set] at hr; exact hr
  · have hlt : gb < wr.heap.size := by
      have := h.old gb h1 h2
      rw [Array.getElem?_eq_getElem h2] at this
      exact (Array.getElem?_eq_some_iff.1 this).1
    rw [hg.block gb hlt (fun e => by injection e with e; omega)]
    exact h.old gb h1 h2
theorem grp_len : ∀ (P : List (List UInt8)) (last : Bool) (g : List Nat), grpGo P last = some g → g.length ≤ P.length + 1
  | [], _, g, h => by
    rw [grpGo] at h
    simp only [Option.some.injEq] at h
    subst h; simp
  | [x], last, g, h => by
    rw [grpGo_one] at h
    split at h
    · simp only [Option.some.injEq] at h; subst h; simp
    · split at h
      · simp only [Option.some.injEq] at h; subst h; simp
      · cases h
  | x :: y :: r, last, g, h => by
    rw [grpGo] at h
    split at h
    · cases h
    · cases hr : grpGo (y :: r) last with
      | none => rw [hr] at h; cases h
      | some m =>
        rw [hr] at h
        simp only [Option.some.injEq] at h
        have := grp_len (y :: r) last m hr
        subst h
        simp at this ⊢; omega
theorem groups_len {l : List UInt8} {last : Bool} {g : List Nat} (h : groupsL l last = some g) : g.length ≤ l.length + 2 := by
  unfold groupsL at h
  split at h
  · simp only [Option.some.injEq] at h; subst h; simp
  · have := grp_len _ _ _ h
    have := splitL_length 58 l
    omega
theorem PA.more {w W2 w3 w4 wr : World} {a1 r1 : Nat} {C : List Nat} (_h : PA w W2 w3 wr a1 r1 C) (_hb : Below w3.heap.size w3 w4) (_he : wr = w4) : True := trivial
set_option maxRecDepth 20000 in
set_option maxHeartbeats 8000000 in
theorem refParse6_any (s : ByteArray) (w : World) (hs : s.size ≤ 1000000000) :
    Calls Tryz.prog 89 #[.string s] w fun e w' => e = .returned (.tuple #[.agg (av (arr6 (parse6 (ls s)))), .bool (parse6 (ls s)).isSome]) ∧ Below w.heap.size w w' := by
  have hdc := fun W => refDouble_any s W hs
  have HPD : Hid (parse6 (ls s) = match dblGo (ls s) 0 with
      | none => match groupsL (ls s) true with
        | some g => if g.length = 8 then some g else none
        | none => none
      | some k => match groupsL ((ls s).take k) false with
        | none => none
        | some g => match groupsL ((ls s).drop (k + 2)) true with
          | none => none
          | some h => if g.length + h.length ≤ 7 then some (g ++ (zerosN (8 - g.length - h.length) ++ h)) else none) := Lib.hid rfl
  unfold dblV at hdc
  go_enter Tryz.func89, Tryz.ntmps89
  go_wp2_with (first
    | (refine wpList_alloc_arr _ rfl 2 rfl _ rfl _ zeroA8 ?_; intro W1 r1 hr1 hl1 hR1 hG1)
    | (refine wpList_alloc_arr _ rfl 4 rfl _ rfl _ zeroA8 ?_; intro W2 a1 ha1 hl2 hA1 hG2))
  have hb1 := below_row0 (Below.refl w.heap.size w) hG1 (Nat.le_refl _)
  have hb2 := below_row0 hb1 hG2 (Nat.le_refl _)
  have hR2 : RowA W2 r1 (zerosN 8) := hR1.grown0 hG2
  have hA2 : RowA W2 a1 (zerosN 8) := hA1
  have hne : r1 ≠ a1 := by omega
  have haw : w.heap.size ≤ a1 := Nat.le_trans hb1.size ha1
  have hrl : r1 < W2.heap.size := hR2.lt
  have HB2 := Lib.hid hb2
  clear hR1 hG1 hA1 hG2 hb1 hb2 ha1 hl1
  refine (hdc _).mono ?_
  rintro r w' ⟨rfl, rfl⟩
  clear hdc
  cases hdb : dblGo (ls s) 0 with
  | none =>
    rw [hdb] at HPD
    simp only at HPD ⊢
    have c1 := refGroups_any s true W2 hs
    generalize groupsL (ls s) true = G at *
    clear hdb
    go_wp2_with fail
    refine c1.mono ?_
    rintro e w3 ⟨v, rfl, hown, hb3⟩
    obtain ⟨A, c, rfl, hnc, hcells⟩ := own_slice6 hown
    have hA3 := hA2.below hb3 hl2
    have hR3 := hR2.below hb3 hrl
    have HB3 := Lib.hid (HB2.out.trans (hb3.mono HB2.out.size))
    clear c1 hown
    by_cases h8 : ∃ g, G = some g ∧ g.length = 8
    · obtain ⟨g, rfl, hg8⟩ := h8
      have HP : Hid (parse6 (ls s) = some g) := by show _ = _; rw [HPD.out]; simp only; rw [if_pos hg8]
      have hPA : PA w W2 w3 w3 a1 r1 (zerosN 8) := ⟨hA3, hR3, rfl, fun _ _ _ => rfl, HB3.out⟩
      simp only [Option.getD_some, Option.isSome_some] at hnc hcells ⊢
      rw [hg8] at hnc hcells ⊢
      have HG8 := Lib.hid hg8
      have HPA := Lib.hid hPA
      clear hPA hA3 hR3 hg8
      go_wp2_with fail
      go_loopw [8] (fun i wr => ∃ (k : Nat) (C : List Nat), k ≤ 8 ∧ i = .int .i64 k ∧ Hid (C = g.take k ++ zerosN (8 - k)) ∧ Hid (PA w W2 w3 wr a1 r1 C)) (fun i _ => 8 - (intOf i).toNat)
      case atStart => exact ⟨0, zerosN 8, Nat.zero_le _, rfl, Lib.hid (by simp), HPA⟩
      case round =>
        obtain ⟨k, C, hk, rfl, HC, HQ⟩ := hrel
        by_cases hlt : k < 8
        · obtain ⟨gb, hAe, hg1, hg2, hgc⟩ := hcells k hlt
          subst hAe
          have hc := HQ.out.cell hg1 hg2 hgc
          have hrow := HQ.out.ra
          have hkC : k < (av C).size := by rw [av_size, HQ.out.len]; exact hlt
          have HSET : Hid (C.set k (g.getD k 0) = g.take (k + 1) ++ zerosN (8 - (k + 1))) := by
            show _ = _
            rw [HC.out, set_step g k 8 (by rw [HG8.out]; exact hlt) hlt]
          generalize g.getD k 0 = x at *
          clear hgc
          go_wp2_with (refine wpList_store_cell _ rfl rfl _ _ _ rfl a1 k (by exact rfl) _ (by exact rfl) (by exact rfl) _ (av C) hrow hkC sizeU16 ?_; intro w4 hr4 hg4)
          go_roundw
          case rel => exact ⟨k + 1, C.set k x, by omega, by go_num, HSET, Lib.hid (HQ.out.set hl2 hne haw hr4 hg4)⟩
          case measure => simp [intOf]; omega
        · obtain rfl : k = 8 := by omega
          have HCg : Hid (C = g) := by show _ = _; rw [HC.out, List.take_of_length_le (by rw [HG8.out]; exact Nat.le_refl _)]; simp [zerosN]
          have hrow := HQ.out.ra
          have hrr := HQ.out.rr
          have hcl := HQ.out.len
          go_wp2_with (first
            | (refine wpList_load_arr _ rfl _ _ rfl a1 (by exact rfl) _ (av C) hrow 8 _ tyA8 (sizeA C hcl) ?_)
            | (refine wpList_store_arr _ rfl rfl _ _ _ rfl r1 (by exact rfl) (av C) (by exact rfl) _ _ hrr (sizeA C hcl) (by rw [av_size, av_size, hcl]; rfl) (av_one C) ?_; intro w5 hr5 hg5))
          refine ret_a8 _ _ rfl r1 rfl C hr5 hcl _ rfl rfl ?_
          refine ⟨?_, below_row HQ.out.bel hg5 (Nat.le_refl _) (by have := HB2.out.size; omega)⟩
          rw [HP.out, HCg.out]; rfl
    · have HP : Hid (parse6 (ls s) = none) := by
        show _ = _
        rw [HPD.out]
        cases G with
        | none => rfl
        | some g => simp only; rw [if_neg (fun h => h8 ⟨g, rfl, h⟩)]
      have hz := zeros8_length
      cases G with
      | none =>
        clear h8
        go_wp2_with (first
          | (refine wpList_load_arr _ rfl _ _ rfl a1 (by exact rfl) _ (av (zerosN 8)) hA3 8 _ tyA8 (sizeA _ rfl) ?_)
          | (refine wpList_store_arr _ rfl rfl _ _ _ rfl r1 (by exact rfl) (av (zerosN 8)) (by exact rfl) _ _ hR3 (sizeA _ rfl) rfl (av_one _) ?_; intro w5 hr5 hg5))
        refine ret_a8 _ _ rfl r1 rfl (zerosN 8) hr5 rfl _ rfl rfl ?_
        refine ⟨?_, below_row HB3.out hg5 (Nat.le_refl _) (by have := HB2.out.size; omega)⟩
        rw [HP.out]; rfl
      | some g =>
        have hg8 : ((g.length : Int) != 8) = true := by simp; intro h; exact h8 ⟨g, rfl, by omega⟩
        simp only [Option.getD_some, Option.isSome_some]
        obtain ⟨gl, hgl⟩ : ∃ n : Nat, n = g.length := ⟨_, rfl⟩
        rw [← hgl] at hg8 ⊢
        clear h8 hcells hnc hgl
        go_wp2_with (first
          | (refine wpList_load_arr _ rfl _ _ rfl a1 (by exact rfl) _ (av (zerosN 8)) hA3 8 _ tyA8 (sizeA _ rfl) ?_)
          | (refine wpList_store_arr _ rfl rfl _ _ _ rfl r1 (by exact rfl) (av (zerosN 8)) (by exact rfl) _ _ hR3 (sizeA _ rfl) rfl (av_one _) ?_; intro w5 hr5 hg5))
        refine ret_a8 _ _ rfl r1 rfl (zerosN 8) hr5 rfl _ rfl rfl ?_
        refine ⟨?_, below_row HB3.out hg5 (Nat.le_refl _) (by have := HB2.out.size; omega)⟩
        rw [HP.out]; rfl
  | some i =>
    have hbd := dbl_bound (ls s) 0 i hdb
    rw [ls_length] at hbd
    rw [hdb] at HPD
    simp only at HPD ⊢
    have hi2 : i + 2 ≤ s.size := by omega
    have hil : (i : Int) ≤ (s.size : Int) := by omega
    have hineg : ¬ (i : Int) < 0 := by omega
    obtain ⟨j, hj⟩ : ∃ j, j = i + 2 := ⟨_, rfl⟩
    have hji : (i : Int) + 2 = (j : Int) := by omega
    have hjs : j ≤ s.size := by omega
    have c1 := fun W => refGroups_any (s.extract 0 i) false W (by rw [ByteArray.size_extract]; omega)
    have c2 := fun W => refGroups_any (s.extract j s.size) true W (by rw [ByteArray.size_extract]; omega)
    have l1 : ls (s.extract 0 i) = (ls s).take i := by rw [sub_extract, ls_bs]; unfold sub; simp
    have l2 : ls (s.extract j s.size) = (ls s).drop (i + 2) := by
      rw [sub_extract, ls_bs, hj]; unfold sub
      exact List.take_of_length_le (by rw [List.length_drop, ls_length]; omega)
    rw [l1] at c1
    rw [l2] at c2
    have HGL : Hid (∀ g, groupsL ((ls s).take i) false = some g → g.length ≤ 1000000002) := Lib.hid fun g hg => by have := groups_len hg; rw [List.length_take, ls_length] at this; omega
    have HHL : Hid (∀ g, groupsL ((ls s).drop (i + 2)) true = some g → g.length ≤ 1000000002) := Lib.hid fun g hg => by have := groups_len hg; rw [List.length_drop, ls_length] at this; omega
    generalize groupsL ((ls s).take i) false = G at *
    generalize groupsL ((ls s).drop (i + 2)) true = H at *
    clear hdb hbd l1 l2 hj
    go_wp2_with fail
    refine (c1 _).mono ?_
    rintro e w3 ⟨v, rfl, hown, hb3⟩
    obtain ⟨A, c, rfl, hnc, hcells⟩ := own_slice6 hown
    have hA3 := hA2.below hb3 hl2
    have hR3 := hR2.below hb3 hrl
    have hs23 := hb3.size
    clear c1 hown
    go_wp2_with fail
    refine (c2 _).mono ?_
    rintro e w4 ⟨v, rfl, hown, hb4⟩
    obtain ⟨A', c', rfl, hnc', hcells'⟩ := own_slice6 hown
    have hA4 := hA3.below hb4 (Nat.lt_of_lt_of_le hl2 hs23)
    have hR4 := hR3.below hb4 (Nat.lt_of_lt_of_le hrl hs23)
    have hs34 := hb4.size
    have HCG : Hid (∀ j, j < (G.getD []).length → ∃ gb, A = some ⟨gb, 0, none⟩ ∧ W2.heap.size ≤ gb ∧ gb < w4.heap.size ∧ w4.cell? ⟨gb, j, none⟩ = some (.int .u16 (((G.getD []).getD j 0 : Nat) : Int))) := by
      refine Lib.hid fun j hj => ?_
      obtain ⟨gb, e1, e2, e3, e4⟩ := hcells j hj
      exact ⟨gb, e1, e2, by omega, (hb4.cell (p := ⟨gb, j, none⟩) e3).trans e4⟩
    have HCH : Hid (∀ j, j < (H.getD []).length → ∃ gb, A' = some ⟨gb, 0, none⟩ ∧ W2.heap.size ≤ gb ∧ gb < w4.heap.size ∧ w4.cell? ⟨gb, j, none⟩ = some (.int .u16 (((H.getD []).getD j 0 : Nat) : Int))) := by
      refine Lib.hid fun j hj => ?_
      obtain ⟨gb, e1, e2, e3, e4⟩ := hcells' j hj
      exact ⟨gb, e1, by omega, e3, e4⟩
    have HB4 := Lib.hid (HB2.out.trans ((hb3.trans (hb4.mono hb3.size)).mono HB2.out.size))
    clear c2 hown hcells hcells' hA2 hR2 hA3 hR3 hb3 hb4
    by_cases h8 : ∃ g h, G = some g ∧ H = some h ∧ g.length + h.length ≤ 7
    · obtain ⟨g, h, rfl, rfl, hgh⟩ := h8
      have HP : Hid (parse6 (ls s) = some (g ++ (zerosN (8 - g.length - h.length) ++ h))) := by show _ = _; rw [HPD.out]; simp only; rw [if_pos hgh]
      have hPA : PA w W2 w4 w4 a1 r1 (zerosN 8) := ⟨hA4, hR4, rfl, fun _ _ _ => rfl, HB4.out⟩
      simp only [Option.getD_some, Option.isSome_some] at hnc hnc' HCG HCH ⊢
      obtain ⟨n, hn⟩ : ∃ n : Nat, n = g.length := ⟨_, rfl⟩
      obtain ⟨m, hm⟩ : ∃ m : Nat, m = h.length := ⟨_, rfl⟩
      rw [← hn] at hnc HCG ⊢
      rw [← hm] at hnc' HCH ⊢
      have hnm : n + m ≤ 7 := by omega
      have hdec : decide ((7 : Int) < (n : Int) + (m : Int)) = false := decide_eq_false (by omega)
      have HN := Lib.hid hn
      have HM := Lib.hid hm
      have HPA := Lib.hid hPA
      clear hPA hA4 hR4 hgh hn hm
      go_wp2_with fail
      go_loopw [13] (fun i wr => ∃ (k : Nat) (C : List Nat), k ≤ n ∧ i = .int .i64 k ∧ Hid (C = g.take k ++ zerosN (8 - k)) ∧ Hid (PA w W2 w4 wr a1 r1 C)) (fun i _ => n - (intOf i).toNat)
      case atStart => exact ⟨0, zerosN 8, Nat.zero_le _, rfl, Lib.hid (by simp), HPA⟩
      case round =>
        obtain ⟨k, C, hk, rfl, HC, HQ⟩ := hrel
        by_cases hlt : k < n
        · obtain ⟨gb, hAe, hg1, hg2, hgc⟩ := HCG.out k hlt
          subst hAe
          have hc := HQ.out.cell hg1 hg2 hgc
          have hrow := HQ.out.ra
          have hk8 : k < 8 := by omega
          have hkC : k < (av C).size := by rw [av_size, HQ.out.len]; exact hk8
          have HSET : Hid (C.set k (g.getD k 0) = g.take (k + 1) ++ zerosN (8 - (k + 1))) := by
            show _ = _
            rw [HC.out, set_step g k 8 (by rw [← HN.out]; exact hlt) hk8]
          generalize g.getD k 0 = x at *
          clear hgc
          go_wp2_with (refine wpList_store_cell _ rfl rfl _ _ _ rfl a1 k (by exact rfl) _ (by exact rfl) (by exact rfl) _ (av C) hrow hkC sizeU16 ?_; intro w5 hr5 hg5)
          go_roundw
          case rel => exact ⟨k + 1, C.set k x, by omega, by go_num, HSET, Lib.hid (HQ.out.set hl2 hne haw hr5 hg5)⟩
          case measure => simp [intOf]; omega
        · obtain rfl : k = n := by omega
          have HC0 : Hid (C = g ++ zerosN (8 - k)) := by show _ = _; rw [HC.out, List.take_of_length_le (by rw [← HN.out]; exact Nat.le_refl _)]
          clear HC
          go_wp2_with fail
          go_loopw [14] (fun i wr => ∃ (q : Nat) (C : List Nat), q ≤ m ∧ i = .int .i64 q ∧ Hid (C = (g ++ zerosN (8 - k - m)) ++ (h.take q ++ zerosN (m - q))) ∧ Hid (PA w W2 w4 wr a1 r1 C)) (fun i _ => m - (intOf i).toNat)
          case atStart =>
            refine ⟨0, C, Nat.zero_le _, rfl, Lib.hid ?_, HQ⟩
            rw [HC0.out, List.append_assoc]
            congr 1
            simp only [List.take_zero, List.nil_append, zerosN, List.replicate_append_replicate]
            congr 1
            omega
          case round =>
            obtain ⟨q, D, hq, rfl, HD, HQ2⟩ := hrel
            by_cases hqlt : q < m
            · obtain ⟨gb, hAe, hg1, hg2, hgc⟩ := HCH.out q hqlt
              subst hAe
              have hc := HQ2.out.cell hg1 hg2 hgc
              have hrow := HQ2.out.ra
              obtain ⟨t, ht⟩ : ∃ t, t = 8 - m + q := ⟨_, rfl⟩
              have ht1 : (8 : Int) - (m : Int) + (q : Int) = (t : Int) := by omega
              have ht8 : t < 8 := by omega
              have hm8 : m ≤ 8 := by omega
              have hkC : t < (av D).size := by rw [av_size, HQ2.out.len]; exact ht8
              have HSET : Hid (D.set t (h.getD q 0) = (g ++ zerosN (8 - k - m)) ++ (h.take (q + 1) ++ zerosN (m - (q + 1)))) := by
                show _ = _
                have hpl : (g ++ zerosN (8 - k - m)).length + q = t := by simp [zerosN]; have := HN.out; omega
                rw [HD.out, ← hpl, set_step2 _ h q m (by rw [← HM.out]; exact hqlt) hqlt]
              generalize h.getD q 0 = x at *
              clear hgc ht
              go_wp2_with (refine wpList_store_cell _ rfl rfl _ _ _ rfl a1 t (by exact rfl) _ (by exact rfl) (by exact rfl) _ (av D) hrow hkC sizeU16 ?_; intro w6 hr6 hg6)
              go_roundw
              case rel => exact ⟨q + 1, D.set t x, by omega, by go_num, HSET, Lib.hid (HQ2.out.set hl2 hne haw hr6 hg6)⟩
              case measure => simp [intOf]; omega
            · obtain rfl : q = m := by omega
              have HCg : Hid (D = g ++ (zerosN (8 - g.length - h.length) ++ h)) := by
                show _ = _
                rw [HD.out, List.take_of_length_le (by rw [← HM.out]; exact Nat.le_refl _), Nat.sub_self, HN.out, HM.out]
                simp [zerosN]
              have hrow := HQ2.out.ra
              have hrr := HQ2.out.rr
              have hcl := HQ2.out.len
              go_wp2_with (first
                | (refine wpList_load_arr _ rfl _ _ rfl a1 (by exact rfl) _ (av D) hrow 8 _ tyA8 (sizeA D hcl) ?_)
                | (refine wpList_store_arr _ rfl rfl _ _ _ rfl r1 (by exact rfl) (av D) (by exact rfl) _ _ hrr (sizeA D hcl) (by rw [av_size, av_size, hcl]; rfl) (av_one D) ?_; intro w7 hr7 hg7))
              refine ret_a8 _ _ rfl r1 rfl D hr7 hcl _ rfl rfl ?_
              refine ⟨?_, below_row HQ2.out.bel hg7 (Nat.le_refl _) (by have := HB2.out.size; omega)⟩
              rw [HP.out, HCg.out]; rfl
    · have HP : Hid (parse6 (ls s) = none) := by
        show _ = _
        rw [HPD.out]
        cases G with
        | none => rfl
        | some g => cases H with
          | none => rfl
          | some h => simp only; rw [if_neg (fun hh => h8 ⟨g, h, rfl, rfl, hh⟩)]
      cases G with
      | none =>
        clear h8
        go_wp2_with (first
          | (refine wpList_load_arr _ rfl _ _ rfl a1 (by exact rfl) _ (av (zerosN 8)) hA4 8 _ tyA8 (sizeA _ rfl) ?_)
          | (refine wpList_store_arr _ rfl rfl _ _ _ rfl r1 (by exact rfl) (av (zerosN 8)) (by exact rfl) _ _ hR4 (sizeA _ rfl) rfl (av_one _) ?_; intro w5 hr5 hg5))
        refine ret_a8 _ _ rfl r1 rfl (zerosN 8) hr5 rfl _ rfl rfl ?_
        refine ⟨?_, below_row HB4.out hg5 (Nat.le_refl _) (by have := HB2.out.size; omega)⟩
        rw [HP.out]; rfl
      | some g =>
        cases H with
        | none =>
          clear h8
          go_wp2_with (first
            | (refine wpList_load_arr _ rfl _ _ rfl a1 (by exact rfl) _ (av (zerosN 8)) hA4 8 _ tyA8 (sizeA _ rfl) ?_)
            | (refine wpList_store_arr _ rfl rfl _ _ _ rfl r1 (by exact rfl) (av (zerosN 8)) (by exact rfl) _ _ hR4 (sizeA _ rfl) rfl (av_one _) ?_; intro w5 hr5 hg5))
          refine ret_a8 _ _ rfl r1 rfl (zerosN 8) hr5 rfl _ rfl rfl ?_
          refine ⟨?_, below_row HB4.out hg5 (Nat.le_refl _) (by have := HB2.out.size; omega)⟩
          rw [HP.out]; rfl
        | some h =>
          simp only [Option.getD_some, Option.isSome_some]
          obtain ⟨n, hn⟩ : ∃ n : Nat, n = g.length := ⟨_, rfl⟩
          obtain ⟨m, hm⟩ : ∃ m : Nat, m = h.length := ⟨_, rfl⟩
          have hgt : 7 < n + m := by
            rcases Nat.lt_or_ge 7 (n + m) with h1 | h1
            · exact h1
            · exact absurd ⟨g, h, rfl, rfl, by omega⟩ h8
          have hbn : n ≤ 1000000002 := by rw [hn]; exact HGL.out g rfl
          have hbm : m ≤ 1000000002 := by rw [hm]; exact HHL.out h rfl
          rw [← hn, ← hm]
          simp only [Option.getD_some] at hnc hnc'
          rw [← hn] at hnc
          rw [← hm] at hnc'
          clear h8 hn hm HCG HCH HGL HHL
          have hdec : decide ((7 : Int) < (n : Int) + (m : Int)) = true := decide_eq_true (by omega)
          go_wp2_with (first
            | (refine wpList_load_arr _ rfl _ _ rfl a1 (by exact rfl) _ (av (zerosN 8)) hA4 8 _ tyA8 (sizeA _ rfl) ?_)
            | (refine wpList_store_arr _ rfl rfl _ _ _ rfl r1 (by exact rfl) (av (zerosN 8)) (by exact rfl) _ _ hR4 (sizeA _ rfl) rfl (av_one _) ?_; intro w5 hr5 hg5))
          refine ret_a8 _ _ rfl r1 rfl (zerosN 8) hr5 rfl _ rfl rfl ?_
          refine ⟨?_, below_row HB4.out hg5 (Nat.le_refl _) (by have := HB2.out.size; omega)⟩
          rw [HP.out]; rfl
end

section
open Go.RowKit
/-- How far the loop has come. -/
def Digs (b n m : Nat) (L : List UInt8) : Prop := (L = [] ∧ m = n) ∨ (L ≠ [] ∧ m = 0 ∧ L = digsB b n) ∨ (L ≠ [] ∧ 0 < m ∧ digsB b m ++ L = digsB b n)
theorem Digs.next {b n m : Nat} {L : List UInt8} (hb : 2 ≤ b) (hn : n < 1099511627776) (hm : m < 1099511627776) (h : Digs b n m L) (hc : 0 < m ∨ L = []) : Digs b n (m / b) (hexc (m % b) :: L) := by
  have key : digsB b m ++ L = digsB b n := by
    rcases h with ⟨h1, h2⟩ | ⟨h1, h2, h3⟩ | ⟨h1, h2, h3⟩
    · subst h1 h2; simp
    · rcases hc with hc | hc
      · omega
      · exact absurd hc h1
    · exact h3
  by_cases hs : m < b
  · refine .inr (.inl ⟨by simp, Nat.div_eq_of_lt hs, ?_⟩)
    rw [← key, digsB_small hs, Nat.mod_eq_of_lt hs]; rfl
  · refine .inr (.inr ⟨by simp, Nat.div_pos (by omega) (by omega), ?_⟩)
    rw [← key, digsB_step hb hm hs]; simp
theorem Digs.len {b n m : Nat} {L : List UInt8} (h : Digs b n m L) (hl : (digsB b n).length ≤ 11) : L.length ≤ 11 := by
  rcases h with ⟨h1, h2⟩ | ⟨h1, h2, h3⟩ | ⟨h1, h2, h3⟩
  · subst h1; simp
  · rw [h3]; exact hl
  · rw [← h3] at hl; simp at hl; omega
theorem Digs.fin {b n : Nat} {L : List UInt8} (h : Digs b n 0 L) (hL : L ≠ []) : L = digsB b n := by
  rcases h with ⟨h1, h2⟩ | ⟨h1, h2, h3⟩ | ⟨h1, h2, h3⟩
  · exact absurd h1 hL
  · exact h3
  · omega
end

section
open Go.RowKit
end

section
open Go.RowKit
def Yes (w : World) (e : Ending) (w' : World) : Prop := e = .returned (.bool true) ∧ Below w.heap.size w w'
end

section
open Go.RowKit
/-- The variable's name. -/
def tabN : String := (Rows.urlParseMatchesSpecRow.laid.tail.tail.head (List.cons_ne_nil _ _)).1
/-- The variable holds the powers of ten. -/
def Pow (w : World) : Prop := Lib.TabIs Tryz.prog w tabN .u64 Lib.pow10Tab
theorem var_below {P : Program} {w w' : World} {n : String} {cs : Array Value} (h : w.var? P n = some cs) (hb : Below w.heap.size w w') : w'.var? P n = some cs := by
  unfold World.var? at h ⊢
  cases hg : P.globalNamed n with
  | none => rw [hg] at h; exact h
  | some g =>
    rw [hg] at h
    simp only [Option.bind_some] at h ⊢
    by_cases hlt : g < w.heap.size
    · rw [hb.block g hlt]
      exact h
    · rw [Array.getElem?_eq_none (by omega)] at h
      cases h
theorem pow_below {w w' : World} (h : Pow w) (hb : Below w.heap.size w w') : Pow w' := var_below h hb
end

section
open Go.RowKit
/-- The powers of ten, and the one entry that is read to the base 16. -/
def Pow6 (w : World) : Prop := Pow w ∧ w.cell? ⟨7, 15, none⟩ = some (.int .u8 4)
theorem cell_block {w : World} {b j : Nat} {v : Value} (h : w.cell? ⟨b, j, none⟩ = some v) : b < w.heap.size := by
  by_cases hb : b < w.heap.size
  · exact hb
  · exfalso
    have : w.heap[b]? = none := Array.getElem?_eq_none (by omega)
    simp [World.cell?, this] at h
theorem pow6_below {w w' : World} (h : Pow6 w) (hb : Below w.heap.size w w') : Pow6 w' :=
  ⟨pow_below h.1 hb, (hb.cell (cell_block h.2)).trans h.2⟩
end

section
open Go.RowKit
def P6Par (F : FuncId) : Prop := ∀ (s : ByteArray) (w : World), s.size ≤ 1000000000 → Pow6 w → Calls Tryz.prog F #[.string s] w fun e w' => e = .returned (.tuple #[.agg (av (arr6 (parse6 (ls s)))), .bool (parse6 (ls s)).isSome]) ∧ Below w.heap.size w w'
def P6Fmt (F : FuncId) : Prop := ∀ (a : List Nat), a.length = 8 → G16 a → ∀ w : World, Pow6 w → Calls Tryz.prog F #[.agg (av a)] w fun e w' => e = .returned (.string (bs (fmt6 a))) ∧ Below w.heap.size w w'
theorem G16.zeros (n : Nat) : G16 (zerosN n) := by intro x hx; have := (List.mem_replicate.1 hx).2; omega
/-- Whether two arrays are equal. -/
theorem eqItems_av (W : World) (C D : List Nat) : ∀ is : List Nat, (∀ i ∈ is, i < C.length ∧ i < D.length) → (Op.eqItems 9999 24 1 (av C) (av D) is).run Tryz.prog W = .ok (is.all fun i => C.getD i 0 == D.getD i 0) W
  | [], _ => by simp [Op.eqItems]
  | i :: r, h => by
    have hi := h i (by simp)
    have ih := eqItems_av W C D r (fun j hj => h j (by simp [hj]))
    have e1 := av_get C i hi.1
    have e2 := av_get D i hi.2
    have hp : ∀ E : List Nat, i < E.length → (part 24 (av E) (i * 1)).run Tryz.prog W = .ok (.int .u16 ((E.getD i 0 : Nat) : Int)) W := by
      intro E hE
      have e := av_get E i hE
      obtain ⟨q, hq, _⟩ : ∃ q, Tryz.prog.info? 24 = some q ∧ q.size = 1 := by
        cases hq : Tryz.prog.info? 24 with
        | none => have := sizeU16; rw [hq] at this; cases this
        | some q => have := sizeU16; rw [hq] at this; exact ⟨q, rfl, by simpa using this⟩
      rename_i hs
      simp [part, run_underlying tyU16, isAgg, sizeOf, typeInfo, e, Result.andThen]
    have heq : (Op.equalIn 9999 24 (.int .u16 ((C.getD i 0 : Nat) : Int)) (.int .u16 ((D.getD i 0 : Nat) : Int))).run Tryz.prog W = .ok (((C.getD i 0 : Nat) : Int) == ((D.getD i 0 : Nat) : Int)) W :=
      run_equalIn_int W 9998 24 .u16 .u16 _ _ tyU16
    have hb : (((C.getD i 0 : Nat) : Int) == ((D.getD i 0 : Nat) : Int)) = (C.getD i 0 == D.getD i 0) := by
      apply Bool.eq_iff_iff.2
      simp only [beq_iff_eq]
      omega
    simp only [Op.eqItems, Sem.run_bind, hp C hi.1, hp D hi.2, Result.andThen_ok, heq, hb, List.all_cons]
    cases hc : (C.getD i 0 == D.getD i 0) with
    | true => simpa using ih
    | false => simp
theorem cellsU16 : Tryz.prog.cellsOf 24 = 1 := by kernel_rfl
theorem eq_av (C D : List Nat) (hC : C.length = 8) (hD : D.length = 8) : ∀ W, (binOp .eql 25 (.agg (av C)) (.agg (av D))).run Tryz.prog W = .ok (.bool (decide (C = D))) W := by
  intro W
  obtain ⟨q, hq⟩ : ∃ q, Tryz.prog.info? 24 = some q := by
    cases hq : Tryz.prog.info? 24 with
    | none => have := sizeU16; rw [hq] at this; cases this
    | some q => exact ⟨q, rfl⟩
  have h1 := run_equalIn_array (w := W) 9999 (av C) (av D) tyA8 hq
  rw [cellsU16, eqItems_av W C D (List.range 8) (fun i hi => by have := List.mem_range.1 hi; omega)] at h1
  have hall : ((List.range 8).all fun i => C.getD i 0 == D.getD i 0) = decide (C = D) := by
    apply Bool.eq_iff_iff.2
    rw [List.all_eq_true, decide_eq_true_iff]
    constructor
    · intro h
      apply List.ext_getElem (by omega)
      intro i h1 h2
      have := h i (List.mem_range.2 (by omega))
      simpa [List.getD_eq_getElem?_getD, List.getElem?_eq_getElem h1, List.getElem?_eq_getElem h2] using this
    · intro h i _
      rw [h]; simp
  rw [hall] at h1
  rw [run_eql_struct, h1]
  rfl
end

section
open Go.RowKit
/-- Whether two arrays are equal. -/
theorem eqItems8 (W : World) (C D : List Nat) : ∀ is : List Nat, (∀ i ∈ is, i < C.length ∧ i < D.length) → (Op.eqItems 9998 24 1 (av C) (av D) is).run Tryz.prog W = .ok (is.all fun i => C.getD i 0 == D.getD i 0) W
  | [], _ => by simp [Op.eqItems]
  | i :: r, h => by
    have hi := h i (by simp)
    have ih := eqItems8 W C D r (fun j hj => h j (by simp [hj]))
    have e1 := av_get C i hi.1
    have e2 := av_get D i hi.2
    have hp : ∀ E : List Nat, i < E.length → (part 24 (av E) (i * 1)).run Tryz.prog W = .ok (.int .u16 ((E.getD i 0 : Nat) : Int)) W := by
      intro E hE
      have e := av_get E i hE
      obtain ⟨q, hq, _⟩ : ∃ q, Tryz.prog.info? 24 = some q ∧ q.size = 1 := by
        cases hq : Tryz.prog.info? 24 with
        | none => have := sizeU16; rw [hq] at this; cases this
        | some q => have := sizeU16; rw [hq] at this; exact ⟨q, rfl, by simpa using this⟩
      rename_i hs
      simp [part, run_underlying tyU16, isAgg, sizeOf, typeInfo, e, Result.andThen]
    have heq : (Op.equalIn 9998 24 (.int .u16 ((C.getD i 0 : Nat) : Int)) (.int .u16 ((D.getD i 0 : Nat) : Int))).run Tryz.prog W = .ok (((C.getD i 0 : Nat) : Int) == ((D.getD i 0 : Nat) : Int)) W :=
      run_equalIn_int W 9997 24 .u16 .u16 _ _ tyU16
    have hb : (((C.getD i 0 : Nat) : Int) == ((D.getD i 0 : Nat) : Int)) = (C.getD i 0 == D.getD i 0) := by
      apply Bool.eq_iff_iff.2
      simp only [beq_iff_eq]
      omega
    simp only [Op.eqItems, Sem.run_bind, hp C hi.1, hp D hi.2, Result.andThen_ok, heq, hb, List.all_cons]
    cases hc : (C.getD i 0 == D.getD i 0) with
    | true => simpa using ih
    | false => simp
theorem list8e : ∀ (g : List Nat), g.length = 8 → ∃ a b c d e f i j, g = [a, b, c, d, e, f, i, j]
  | [a, b, c, d, e, f, i, j], _ => ⟨a, b, c, d, e, f, i, j, rfl⟩
theorem eqIn8 (C D : List Nat) (hC : C.length = 8) (hD : D.length = 8) (W : World) : (Op.equalIn 9999 25 (.agg (av C)) (.agg (av D))).run Tryz.prog W = .ok (decide (C = D)) W := by
  obtain ⟨q, hq⟩ : ∃ q, Tryz.prog.info? 24 = some q := by
    cases hq : Tryz.prog.info? 24 with
    | none => have := sizeU16; rw [hq] at this; cases this
    | some q => exact ⟨q, rfl⟩
  have h1 := run_equalIn_array (P := Tryz.prog) (w := W) 9998 (av C) (av D) tyA8 hq
  rw [cellsU16, eqItems8 W C D (List.range 8) (fun i hi => by have := List.mem_range.1 hi; omega)] at h1
  have hall : ((List.range 8).all fun i => C.getD i 0 == D.getD i 0) = decide (C = D) := by
    apply Bool.eq_iff_iff.2
    rw [List.all_eq_true, decide_eq_true_iff]
    constructor
    · intro h
      apply List.ext_getElem (by omega)
      intro i h1 h2
      have := h i (List.mem_range.2 (by omega))
      simpa [List.getD_eq_getElem?_getD, List.getElem?_eq_getElem h1, List.getElem?_eq_getElem h2] using this
    · intro h i _
      rw [h]; simp
  rw [hall] at h1
  exact h1
set_option maxRecDepth 20000 in
theorem eq_host (k k' : Int) (n n' : ByteArray) (v v' : Int) (g g' : List Nat) (hg : g.length = 8) (hg' : g'.length = 8) (W : World) :
    (binOp .eql 27 (.agg (hc k n v g)) (.agg (hc k' n' v' g'))).run Tryz.prog W = .ok (.bool (decide (k = k' ∧ n.toList = n'.toList ∧ v = v' ∧ g = g'))) W := by
  have h8 := eqIn8 g g' hg hg' W
  obtain ⟨a0, a1, a2, a3, a4, a5, a6, a7, rfl⟩ := list8e g hg
  obtain ⟨b0, b1, b2, b3, b4, b5, b6, b7, rfl⟩ := list8e g' hg'
  · skip
    obtain ⟨q, hq⟩ : ∃ q, q = decide ([a0, a1, a2, a3, a4, a5, a6, a7] = [b0, b1, b2, b3, b4, b5, b6, b7]) := ⟨_, rfl⟩
    rw [← hq] at h8
    have e1 : av [a0, a1, a2, a3, a4, a5, a6, a7] = #[.int .u16 (a0 : Int), .int .u16 (a1 : Int), .int .u16 (a2 : Int), .int .u16 (a3 : Int), .int .u16 (a4 : Int), .int .u16 (a5 : Int), .int .u16 (a6 : Int), .int .u16 (a7 : Int)] := rfl
    have e2 : av [b0, b1, b2, b3, b4, b5, b6, b7] = #[.int .u16 (b0 : Int), .int .u16 (b1 : Int), .int .u16 (b2 : Int), .int .u16 (b3 : Int), .int .u16 (b4 : Int), .int .u16 (b5 : Int), .int .u16 (b6 : Int), .int .u16 (b7 : Int)] := rfl
    rw [e1, e2] at h8
    have e3 : decide (k = k' ∧ n.toList = n'.toList ∧ v = v' ∧ [a0, a1, a2, a3, a4, a5, a6, a7] = [b0, b1, b2, b3, b4, b5, b6, b7]) = (decide (k = k') && (decide (n.toList = n'.toList) && (decide (v = v') && q))) := by
      rw [hq, Bool.eq_iff_iff]
      simp only [decide_eq_true_eq, Bool.and_eq_true]
    rw [e3]
    have e4 : ∀ (x0 x1 x2 x3 x4 x5 x6 x7 : Nat), hc k n v [x0, x1, x2, x3, x4, x5, x6, x7] = #[.int .i64 k, .string n, .int .u32 v, .int .u16 (x0 : Int), .int .u16 (x1 : Int), .int .u16 (x2 : Int), .int .u16 (x3 : Int), .int .u16 (x4 : Int), .int .u16 (x5 : Int), .int .u16 (x6 : Int), .int .u16 (x7 : Int)] := fun _ _ _ _ _ _ _ _ => rfl
    have e5 : hc k' n' v' [b0, b1, b2, b3, b4, b5, b6, b7] = #[.int .i64 k', .string n', .int .u32 v', .int .u16 (b0 : Int), .int .u16 (b1 : Int), .int .u16 (b2 : Int), .int .u16 (b3 : Int), .int .u16 (b4 : Int), .int .u16 (b5 : Int), .int .u16 (b6 : Int), .int .u16 (b7 : Int)] := rfl
    rw [e4, e5]
    clear e1 e2 e3 e4 e5 hq
    by_cases h1 : k = k' <;> by_cases h2 : n.toList = n'.toList <;> by_cases h3 : v = v' <;> cases q <;> simp [go_sem, h1, h2, h3, h8]
end

end Go.Proofs.YtdfacgncphmcoaaGreatDoor
