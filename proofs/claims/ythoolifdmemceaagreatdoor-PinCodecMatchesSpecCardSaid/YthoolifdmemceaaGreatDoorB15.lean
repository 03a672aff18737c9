/-
Region 47 of the reference's Decode of layer 12: an insertion by three appends, in any order of evaluation.
-/
import Derived.Test.YthoolifdmemceaaGreatDoorB12
import Derived.Test.YthoolifdmemceaaGreatDoorB10
import Derived.Test.YthoolifdmemceaaGreatDoorB14
import Derived.Test.YthoolifdmemceaaGreatDoorB11
import Derived.Deep.LoopGhost
import Derived.BigQuiet
import Derived.Deep.CutRange
import Derived.Deep.CutBlock
namespace Go.Proofs.YthoolifdmemceaaGreatDoor
section
open Go.RowKit

theorem own_low9 {w : World} {b b' e n : Nat} {v : Value} {xs : List Value} (h : w.ownsRow b e 1 v n xs) (hb : b' ≤ b) : w.ownsRow b' e 1 v n xs := by
  refine ⟨h.1, ?_⟩
  rcases h.2 with h0 | ⟨g, cap, cur, h1, h2, h3⟩
  · exact .inl h0
  · exact .inr ⟨g, cap, cur, h1, by omega, h3⟩
theorem one_nv (l : List Nat) : ∀ u ∈ l.map nvI, u.oneCell' = true := by
  intro u hu
  obtain ⟨x, _, rfl⟩ := List.mem_map.1 hu
  rfl
/-- A cell that was just laid. -/
theorem one_cell (w : World) (v : Value) (e : TypeId) : ∀ b off, (some (⟨w.heap.size, 0, none⟩ : Addr)) = some ⟨b, off, none⟩ → ∀ j (hj : j < [v].length), (w.alloc (.cells #[v] e)).cell? ⟨b, off + j, none⟩ = some [v][j] := by
  intro b off h j hj
  injection h with h
  injection h with h1 h2 _
  subst h1 h2
  simp at hj
  subst hj
  simp [World.cell?_alloc_at _ _ _ _ rfl]
theorem one_alloc {w : World} {g : Nat} {v : Value} (h : ∀ b off, (some (⟨g, 0, none⟩ : Addr)) = some ⟨b, off, none⟩ → ∀ j (hj : j < [v].length), w.cell? ⟨b, off + j, none⟩ = some [v][j]) (o : Obj) :
    ∀ b off, (some (⟨g, 0, none⟩ : Addr)) = some ⟨b, off, none⟩ → ∀ j (hj : j < [v].length), (w.alloc o).cell? ⟨b, off + j, none⟩ = some [v][j] := by
  intro b off he j hj
  have := h b off he j hj
  exact (World.cell?_alloc_lt w o ⟨b, off + j, none⟩ (World.block_lt_of_cell? w _ this)).trans this
theorem one_kept {w w' : World} {g : Nat} {v : Value} {row : Option Nat} (h : ∀ b off, (some (⟨g, 0, none⟩ : Addr)) = some ⟨b, off, none⟩ → ∀ j (hj : j < [v].length), w.cell? ⟨b, off + j, none⟩ = some [v][j]) (hg : w.grownBy w' row) (hne : some g ≠ row) :
    ∀ b off, (some (⟨g, 0, none⟩ : Addr)) = some ⟨b, off, none⟩ → ∀ j (hj : j < [v].length), w'.cell? ⟨b, off + j, none⟩ = some [v][j] := by
  intro b off he j hj
  have := h b off he j hj
  refine hg.cell this ?_
  injection he with he
  injection he with h1 _ _
  subst h1
  exact hne

set_option maxRecDepth 20000 in
set_option maxHeartbeats 8000000 in
theorem ins_nil (n2 ps : Nat)  (wr : World) (s0 s1 s2 s3 s4 s5 s7 s8 s11 s12 s13 s14 s15 s16 s17 s18 s19 s20 s21 s22 s23 s24 s25 s26 s27 s28 s29 s30 s31 s32 s33 s34 s35 s36 s37 s38 s39 s40 s41 s42 s43 s44 s45 s46 s47 s48 s49 s50 s51 s52 s53 s54 s55 s56 s57 s58 s59 s60 s61 s62 s63 s64 s65 s66 s67 s68 s69 s70 s71 s72 s73 s74 s75 s76 s77 s78 s79 s80 s81 s82 s83 s84 s85 s86 s87 s88 s89 s90 s91 s92 s93 s94 s95 s96 s97 s98 s99 s100 s101 s102 s103 s104 s105 s106 s107 s108 s109 s110 s111 s112 s113 s114 s115 s116 s117 s118 s119 s120 s121 s122 s123 s124 s125 s126 s127 s128 s129 s130 s131 s132 s133 s134 : Value) (Q : Exit → Act → World → Prop)
    (hps : ps = 0)
    (h : ∀ v z117 z118 z119 z120 z121 z122 z123 z124 z125 z126 z127 z128 w', w'.ownsRow wr.heap.size 3 1 v (0 + 1) ((([] : List Nat).take ps ++ n2 :: ([] : List Nat).drop ps).map nvI) → Below wr.heap.size wr w' → Q .normal { tmps := #[s0, s1, s2, s3, s4, s5, v, s7, s8, .int .i64 (n2 : Int), .int .i64 (ps : Int), s11, s12, s13, s14, s15, s16, s17, s18, s19, s20, s21, s22, s23, s24, s25, s26, s27, s28, s29, s30, s31, s32, s33, s34, s35, s36, s37, s38, s39, s40, s41, s42, s43, s44, s45, s46, s47, s48, s49, s50, s51, s52, s53, s54, s55, s56, s57, s58, s59, s60, s61, s62, s63, s64, s65, s66, s67, s68, s69, s70, s71, s72, s73, s74, s75, s76, s77, s78, s79, s80, s81, s82, s83, s84, s85, s86, s87, s88, s89, s90, s91, s92, s93, s94, s95, s96, s97, s98, s99, s100, s101, s102, s103, s104, s105, s106, s107, s108, s109, s110, s111, s112, s113, s114, s115, s116, z117, z118, z119, z120, z121, z122, z123, z124, z125, z126, z127, z128, s129, s130, s131, s132, s133, s134], defers := [] } w') :
    Code.wp Tryz.prog (Code.region 47 #[{ dst := some 117, op := Op.buildSlice 65 0 #[], type := 65, pos := "ref.go:163", after := #[], guard := none },
        { dst := some 118, op := Op.move (Operand.tmp 6), type := 65, pos := "ref.go:163", after := #[],
          guard := none },
        { dst := some 119, op := Op.move (Operand.tmp 10), type := 3, pos := "ref.go:163", after := #[],
          guard := none },
        { dst := some 120, op := Op.slice 65 (Operand.tmp 118) none (some (Operand.tmp 119)) none, type := 65,
          pos := "ref.go:163", after := #[{ on := 1, ground := Ground.data }, { on := 2, ground := Ground.data }],
          guard := none },
        { dst := some 121,
          op :=
            Op.call
              { callee := Callee.builtin Builtin.append, args := #[Operand.tmp 117, Operand.tmp 120],
                argTypes := #[65, 65] },
          type := 65, pos := "ref.go:163",
          after := #[{ on := 0, ground := Ground.data }, { on := 3, ground := Ground.data }], guard := none },
        { dst := some 122, op := Op.move (Operand.tmp 9), type := 3, pos := "ref.go:163", after := #[], guard := none },
        { dst := some 123, op := Op.buildSlice 65 1 #[(0, Operand.tmp 122)], type := 65, pos := "ref.go:163",
          after := #[{ on := 5, ground := Ground.data }], guard := none },
        { dst := some 124,
          op :=
            Op.call
              { callee := Callee.builtin Builtin.append, args := #[Operand.tmp 121, Operand.tmp 123],
                argTypes := #[65, 65] },
          type := 65, pos := "ref.go:163",
          after :=
            #[{ on := 4, ground := Ground.data }, { on := 6, ground := Ground.data },
              { on := 4, ground := Ground.chain }],
          guard := none },
        { dst := some 125, op := Op.move (Operand.tmp 6), type := 65, pos := "ref.go:163", after := #[],
          guard := none },
        { dst := some 126, op := Op.move (Operand.tmp 10), type := 3, pos := "ref.go:163", after := #[],
          guard := none },
        { dst := some 127, op := Op.slice 65 (Operand.tmp 125) (some (Operand.tmp 126)) none none, type := 65,
          pos := "ref.go:163", after := #[{ on := 8, ground := Ground.data }, { on := 9, ground := Ground.data }],
          guard := none },
        { dst := some 128,
          op :=
            Op.call
              { callee := Callee.builtin Builtin.append, args := #[Operand.tmp 124, Operand.tmp 127],
                argTypes := #[65, 65] },
          type := 65, pos := "ref.go:163",
          after :=
            #[{ on := 7, ground := Ground.data }, { on := 10, ground := Ground.data },
              { on := 7, ground := Ground.chain }],
          guard := none },
        { dst := some 6, op := Op.assign (Operand.tmp 128), type := 65, pos := "ref.go:163",
          after :=
            #[{ on := 11, ground := Ground.data }, { on := 11, ground := Ground.chain },
              { on := 0, ground := Ground.phase }, { on := 1, ground := Ground.phase },
              { on := 2, ground := Ground.phase }, { on := 3, ground := Ground.phase },
              { on := 4, ground := Ground.phase }, { on := 5, ground := Ground.phase },
              { on := 6, ground := Ground.phase }, { on := 7, ground := Ground.phase },
              { on := 8, ground := Ground.phase }, { on := 9, ground := Ground.phase },
              { on := 10, ground := Ground.phase }, { on := 11, ground := Ground.phase }],
          guard := none }] true) Q { tmps := #[s0, s1, s2, s3, s4, s5, .slice none 0 0, s7, s8, .int .i64 (n2 : Int), .int .i64 (ps : Int), s11, s12, s13, s14, s15, s16, s17, s18, s19, s20, s21, s22, s23, s24, s25, s26, s27, s28, s29, s30, s31, s32, s33, s34, s35, s36, s37, s38, s39, s40, s41, s42, s43, s44, s45, s46, s47, s48, s49, s50, s51, s52, s53, s54, s55, s56, s57, s58, s59, s60, s61, s62, s63, s64, s65, s66, s67, s68, s69, s70, s71, s72, s73, s74, s75, s76, s77, s78, s79, s80, s81, s82, s83, s84, s85, s86, s87, s88, s89, s90, s91, s92, s93, s94, s95, s96, s97, s98, s99, s100, s101, s102, s103, s104, s105, s106, s107, s108, s109, s110, s111, s112, s113, s114, s115, s116, s117, s118, s119, s120, s121, s122, s123, s124, s125, s126, s127, s128, s129, s130, s131, s132, s133, s134], defers := [] } wr := by
  obtain ⟨i3, hi3, hz0, hz1, hz2⟩ := info_parts infoInt
  have H := Lib.hid h
  clear h
  subst hps
  obtain ⟨X1, hX1⟩ : ∃ X1 : List Value, X1 = [] := ⟨_, rfl⟩
  obtain ⟨X3, hX3⟩ : ∃ X3 : List Value, X3 = [] := ⟨_, rfl⟩
  have HNA1 : Hid ((none : Option Addr) = none → (0 : Nat) = 0 ∧ (0 : Nat) = 0) := Lib.hid fun _ => ⟨rfl, rfl⟩
  have HNA3 := HNA1
  have hln1 : Hid (X1.length = 0) := Lib.hid (by rw [hX1]; rfl)
  have hln3 : Hid (X3.length = 0) := Lib.hid (by rw [hX3]; rfl)
  have hc1 : Hid (∀ W, Below wr.heap.size wr W → ∀ b off, (none : Option Addr) = some ⟨b, off, none⟩ → ∀ j (hj : j < X1.length), W.cell? ⟨b, off + j, none⟩ = some X1[j]) := Lib.hid (fun W _ b off e => by cases e)
  have hc3 : Hid (∀ W, Below wr.heap.size wr W → ∀ b off, (none : Option Addr) = some ⟨b, off, none⟩ → ∀ j (hj : j < X3.length), W.cell? ⟨b, off + j, none⟩ = some X3[j]) := Lib.hid (fun W _ b off e => by cases e)
  have HFL1 : Hid (∀ ad, (none : Option Addr) = some ad → ad = ⟨ad.block, ad.off, none⟩) := Lib.hid fun ad e => by cases e
  have HFL3 := HFL1
  have HO1 : Hid (∀ u ∈ X1, u.oneCell' = true) := Lib.hid (by rw [hX1]; intro u hu; simp at hu)
  have HO3 : Hid (∀ u ∈ X3, u.oneCell' = true) := Lib.hid (by rw [hX3]; intro u hu; simp at hu)
  have HFIN9 : Hid (([] : List Value) ++ X1 ++ [Value.int .i64 (n2 : Int)] ++ X3 = ((([] : List Nat).take 0 ++ n2 :: ([] : List Nat).drop 0).map nvI)) := by
    show _ = _
    rw [hX1, hX3]
    simp [nvI]
  have H63 : Hid (0 + 0 ≤ maxLen ∧ 0 + 0 + 1 ≤ maxLen ∧ 0 + 0 + 1 + 0 ≤ maxLen) := by show _ ∧ _; unfold maxLen; omega
  have HBY : Hid ((0 + 0) * 8 ≤ 140737488355328 ∧ (0 + 0 + 1) * 8 ≤ 140737488355328 ∧ (0 + 0 + 1 + 0) * 8 ≤ 140737488355328) := by show _ ∧ _; omega
  have HLEN : Hid (0 + 0 + 1 + 0 = 0 + 1) := Lib.hid rfl
  clear hX1 hX3
  have HBE : Hid (Below wr.heap.size wr (wr.alloc (Obj.cells #[] 3)).drew) := Lib.hid ((Below.refl wr.heap.size wr).alloc (Nat.le_refl _) (Obj.cells #[] 3)).drew
  have HBEO : Hid (Below wr.heap.size wr ((wr.alloc (Obj.cells #[] 3)).alloc (Obj.cells #[.int .i64 (n2 : Int)] 3)).drew) := Lib.hid (((Below.refl wr.heap.size wr).alloc (Nat.le_refl _) (Obj.cells #[] 3)).alloc ((Below.refl wr.heap.size wr).alloc (Nat.le_refl _) (Obj.cells #[] 3)).size (Obj.cells #[.int .i64 (n2 : Int)] 3)).drew
  have HBOE : Hid (Below wr.heap.size wr ((wr.alloc (Obj.cells #[.int .i64 (n2 : Int)] 3)).alloc (Obj.cells #[] 3)).drew) := Lib.hid (((Below.refl wr.heap.size wr).alloc (Nat.le_refl _) (Obj.cells #[.int .i64 (n2 : Int)] 3)).alloc ((Below.refl wr.heap.size wr).alloc (Nat.le_refl _) (Obj.cells #[.int .i64 (n2 : Int)] 3)).size (Obj.cells #[] 3)).drew
  have HOWE : Hid (((wr.alloc (Obj.cells #[] 3)).drew).ownsRow wr.heap.size 3 1 (.slice (some ⟨wr.heap.size, 0, none⟩) 0 0) 0 []) := Lib.hid (own_empty wr 3)
  have HOWEO : Hid ((((wr.alloc (Obj.cells #[] 3)).alloc (Obj.cells #[.int .i64 (n2 : Int)] 3)).drew).ownsRow wr.heap.size 3 1 (.slice (some ⟨wr.heap.size, 0, none⟩) 0 0) 0 []) := Lib.hid ((own_empty wr 3).alloc (Obj.cells #[.int .i64 (n2 : Int)] 3))
  have hsz1 : ∀ ob, (wr.alloc ob).heap.size = wr.heap.size + 1 := fun ob => by show (wr.heap.push _).size = _; simp
  have HOWOE : Hid ((((wr.alloc (Obj.cells #[.int .i64 (n2 : Int)] 3)).alloc (Obj.cells #[] 3)).drew).ownsRow wr.heap.size 3 1 (.slice (some ⟨wr.heap.size + 1, 0, none⟩) 0 0) 0 []) := by
    have := own_low9 (own_empty (wr.alloc (Obj.cells #[.int .i64 (n2 : Int)] 3)) 3) ((Below.refl wr.heap.size wr).alloc (Nat.le_refl _) (Obj.cells #[.int .i64 (n2 : Int)] 3)).size
    rw [hsz1] at this
    exact Lib.hid this
  have HCB : Hid (∀ b off, (some (⟨wr.heap.size + 1, 0, none⟩ : Addr)) = some ⟨b, off, none⟩ → ∀ j (hj : j < [Value.int .i64 (n2 : Int)].length), (((wr.alloc (Obj.cells #[] 3)).alloc (Obj.cells #[.int .i64 (n2 : Int)] 3)).drew).cell? ⟨b, off + j, none⟩ = some [Value.int .i64 (n2 : Int)][j]) := by
    have := one_cell (wr.alloc (Obj.cells #[] 3)) (.int .i64 (n2 : Int)) 3
    rw [hsz1] at this
    exact Lib.hid this
  have HCC : Hid (∀ b off, (some (⟨wr.heap.size, 0, none⟩ : Addr)) = some ⟨b, off, none⟩ → ∀ j (hj : j < [Value.int .i64 (n2 : Int)].length), (((wr.alloc (Obj.cells #[.int .i64 (n2 : Int)] 3)).alloc (Obj.cells #[] 3)).drew).cell? ⟨b, off + j, none⟩ = some [Value.int .i64 (n2 : Int)][j]) := Lib.hid (one_alloc (one_cell wr _ _) (Obj.cells #[] 3))
  have HNEB : Hid (some (wr.heap.size + 1) ≠ (Value.slice (some ⟨wr.heap.size, 0, none⟩) 0 0).ownBlock) := Lib.hid (by show some (wr.heap.size + 1) ≠ some wr.heap.size; simp)
  have HNEC : Hid (some wr.heap.size ≠ (Value.slice (some ⟨wr.heap.size + 1, 0, none⟩) 0 0).ownBlock) := Lib.hid (by show some wr.heap.size ≠ some (wr.heap.size + 1); simp)
  clear hsz1
  have HNS : Hid (∀ {g : Nat}, (some (⟨g, 0, none⟩ : Addr)) = none → (1 : Nat) = 0 ∧ (1 : Nat) = 0) := Lib.hid fun e => by cases e
  have HFS : Hid (∀ {g : Nat}, ∀ ad, (some (⟨g, 0, none⟩ : Addr)) = some ad → ad = ⟨ad.block, ad.off, none⟩) := Lib.hid fun ad e => by cases e; rfl
  have HOL : Hid (∀ u ∈ [Value.int .i64 (n2 : Int)], u.oneCell' = true) := Lib.hid (by intro u hu; simp at hu; subst hu; rfl)
  go_region_held3 (fun _ => True) (first | trivial | go_keep)
    (first
      | ((with_reducible refine at_w9 ((wr.alloc (Obj.cells #[] 3)).drew) ?_); refine step_app_g rfl _ _ 65 (by exact rfl) wr.heap.size 3 i3 (.int .i64 0) 8 tyInts hi3 hz0 hz1 hz2 rfl (.slice (some ⟨wr.heap.size, 0, none⟩) 0 0) 0 [] (by exact rfl) HOWE.out none 0 0 X1 (by exact rfl) HNA1.out hln1.out (hc1.out _ HBE.out) HFL1.out HO1.out H63.out.1 HBY.out.1 HBE.out (Nat.le_refl _) ?_; intro vaA waA hownaA hbaA hgaA)
      | ((with_reducible refine at_w9 (((wr.alloc (Obj.cells #[] 3)).alloc (Obj.cells #[.int .i64 (n2 : Int)] 3)).drew) ?_); refine step_app_g rfl _ _ 65 (by exact rfl) wr.heap.size 3 i3 (.int .i64 0) 8 tyInts hi3 hz0 hz1 hz2 rfl (.slice (some ⟨wr.heap.size, 0, none⟩) 0 0) 0 [] (by exact rfl) HOWEO.out none 0 0 X1 (by exact rfl) HNA1.out hln1.out (hc1.out _ HBEO.out) HFL1.out HO1.out H63.out.1 HBY.out.1 HBEO.out (Nat.le_refl _) ?_; intro vaB waB hownaB hbaB hgaB)
      | ((with_reducible refine at_w9 (((wr.alloc (Obj.cells #[.int .i64 (n2 : Int)] 3)).alloc (Obj.cells #[] 3)).drew) ?_); refine step_app_g rfl _ _ 65 (by exact rfl) wr.heap.size 3 i3 (.int .i64 0) 8 tyInts hi3 hz0 hz1 hz2 rfl (.slice (some ⟨wr.heap.size + 1, 0, none⟩) 0 0) 0 [] (by exact rfl) HOWOE.out none 0 0 X1 (by exact rfl) HNA1.out hln1.out (hc1.out _ HBOE.out) HFL1.out HO1.out H63.out.1 HBY.out.1 HBOE.out (Nat.le_refl _) ?_; intro vaC waC hownaC hbaC hgaC)
      | ((with_reducible refine at_w9 (waA.alloc (Obj.cells #[.int .i64 (n2 : Int)] 3)) ?_); refine step_app_g rfl _ _ 65 (by exact rfl) wr.heap.size 3 i3 (.int .i64 0) 8 tyInts hi3 hz0 hz1 hz2 rfl vaA (0 + 0) _ (by exact rfl) (hownaA.alloc _) (some ⟨waA.heap.size, 0, none⟩) 1 1 [.int .i64 (n2 : Int)] (by exact rfl) HNS.out rfl (one_cell waA _ _) HFS.out HOL.out H63.out.2.1 HBY.out.2.1 (hbaA.alloc hbaA.size _) (Nat.le_refl _) ?_; intro vq wq hownq hbq hgq)
      | ((with_reducible refine at_w9 (waB) ?_); refine step_app_g rfl _ _ 65 (by exact rfl) wr.heap.size 3 i3 (.int .i64 0) 8 tyInts hi3 hz0 hz1 hz2 rfl vaB (0 + 0) _ (by exact rfl) hownaB (some ⟨wr.heap.size + 1, 0, none⟩) 1 1 [.int .i64 (n2 : Int)] (by exact rfl) HNS.out rfl (one_kept HCB.out hgaB HNEB.out) HFS.out HOL.out H63.out.2.1 HBY.out.2.1 hbaB (Nat.le_refl _) ?_; intro vq wq hownq hbq hgq)
      | ((with_reducible refine at_w9 (waC) ?_); refine step_app_g rfl _ _ 65 (by exact rfl) wr.heap.size 3 i3 (.int .i64 0) 8 tyInts hi3 hz0 hz1 hz2 rfl vaC (0 + 0) _ (by exact rfl) hownaC (some ⟨wr.heap.size, 0, none⟩) 1 1 [.int .i64 (n2 : Int)] (by exact rfl) HNS.out rfl (one_kept HCC.out hgaC HNEC.out) HFS.out HOL.out H63.out.2.1 HBY.out.2.1 hbaC (Nat.le_refl _) ?_; intro vq wq hownq hbq hgq)
      | ((with_reducible refine at_w9 (wq) ?_); refine step_app_g rfl _ _ 65 (by exact rfl) wr.heap.size 3 i3 (.int .i64 0) 8 tyInts hi3 hz0 hz1 hz2 rfl vq (0 + 0 + 1) _ (by exact rfl) hownq none 0 0 X3 (by exact rfl) HNA3.out hln3.out (hc3.out _ hbq) HFL3.out HO3.out H63.out.2.2 HBY.out.2.2 hbq (Nat.le_refl _) ?_; intro ve we howne hbe hge))
  all_goals (rw [HLEN.out] at howne; rw [HFIN9.out] at howne)
  all_goals exact H.out _ _ _ _ _ _ _ _ _ _ _ _ _ _ howne hbe

set_option maxRecDepth 20000 in
set_option maxHeartbeats 8000000 in
theorem ins_zero (n2 ps : Nat) (g6 : Nat) (wr : World) (s0 s1 s2 s3 s4 s5 s7 s8 s11 s12 s13 s14 s15 s16 s17 s18 s19 s20 s21 s22 s23 s24 s25 s26 s27 s28 s29 s30 s31 s32 s33 s34 s35 s36 s37 s38 s39 s40 s41 s42 s43 s44 s45 s46 s47 s48 s49 s50 s51 s52 s53 s54 s55 s56 s57 s58 s59 s60 s61 s62 s63 s64 s65 s66 s67 s68 s69 s70 s71 s72 s73 s74 s75 s76 s77 s78 s79 s80 s81 s82 s83 s84 s85 s86 s87 s88 s89 s90 s91 s92 s93 s94 s95 s96 s97 s98 s99 s100 s101 s102 s103 s104 s105 s106 s107 s108 s109 s110 s111 s112 s113 s114 s115 s116 s117 s118 s119 s120 s121 s122 s123 s124 s125 s126 s127 s128 s129 s130 s131 s132 s133 s134 : Value) (Q : Exit → Act → World → Prop)
    (hps : ps = 0)
    (h : ∀ v z117 z118 z119 z120 z121 z122 z123 z124 z125 z126 z127 z128 w', w'.ownsRow wr.heap.size 3 1 v (0 + 1) ((([] : List Nat).take ps ++ n2 :: ([] : List Nat).drop ps).map nvI) → Below wr.heap.size wr w' → Q .normal { tmps := #[s0, s1, s2, s3, s4, s5, v, s7, s8, .int .i64 (n2 : Int), .int .i64 (ps : Int), s11, s12, s13, s14, s15, s16, s17, s18, s19, s20, s21, s22, s23, s24, s25, s26, s27, s28, s29, s30, s31, s32, s33, s34, s35, s36, s37, s38, s39, s40, s41, s42, s43, s44, s45, s46, s47, s48, s49, s50, s51, s52, s53, s54, s55, s56, s57, s58, s59, s60, s61, s62, s63, s64, s65, s66, s67, s68, s69, s70, s71, s72, s73, s74, s75, s76, s77, s78, s79, s80, s81, s82, s83, s84, s85, s86, s87, s88, s89, s90, s91, s92, s93, s94, s95, s96, s97, s98, s99, s100, s101, s102, s103, s104, s105, s106, s107, s108, s109, s110, s111, s112, s113, s114, s115, s116, z117, z118, z119, z120, z121, z122, z123, z124, z125, z126, z127, z128, s129, s130, s131, s132, s133, s134], defers := [] } w') :
    Code.wp Tryz.prog (Code.region 47 #[{ dst := some 117, op := Op.buildSlice 65 0 #[], type := 65, pos := "ref.go:163", after := #[], guard := none },
        { dst := some 118, op := Op.move (Operand.tmp 6), type := 65, pos := "ref.go:163", after := #[],
          guard := none },
        { dst := some 119, op := Op.move (Operand.tmp 10), type := 3, pos := "ref.go:163", after := #[],
          guard := none },
        { dst := some 120, op := Op.slice 65 (Operand.tmp 118) none (some (Operand.tmp 119)) none, type := 65,
          pos := "ref.go:163", after := #[{ on := 1, ground := Ground.data }, { on := 2, ground := Ground.data }],
          guard := none },
        { dst := some 121,
          op :=
            Op.call
              { callee := Callee.builtin Builtin.append, args := #[Operand.tmp 117, Operand.tmp 120],
                argTypes := #[65, 65] },
          type := 65, pos := "ref.go:163",
          after := #[{ on := 0, ground := Ground.data }, { on := 3, ground := Ground.data }], guard := none },
        { dst := some 122, op := Op.move (Operand.tmp 9), type := 3, pos := "ref.go:163", after := #[], guard := none },
        { dst := some 123, op := Op.buildSlice 65 1 #[(0, Operand.tmp 122)], type := 65, pos := "ref.go:163",
          after := #[{ on := 5, ground := Ground.data }], guard := none },
        { dst := some 124,
          op :=
            Op.call
              { callee := Callee.builtin Builtin.append, args := #[Operand.tmp 121, Operand.tmp 123],
                argTypes := #[65, 65] },
          type := 65, pos := "ref.go:163",
          after :=
            #[{ on := 4, ground := Ground.data }, { on := 6, ground := Ground.data },
              { on := 4, ground := Ground.chain }],
          guard := none },
        { dst := some 125, op := Op.move (Operand.tmp 6), type := 65, pos := "ref.go:163", after := #[],
          guard := none },
        { dst := some 126, op := Op.move (Operand.tmp 10), type := 3, pos := "ref.go:163", after := #[],
          guard := none },
        { dst := some 127, op := Op.slice 65 (Operand.tmp 125) (some (Operand.tmp 126)) none none, type := 65,
          pos := "ref.go:163", after := #[{ on := 8, ground := Ground.data }, { on := 9, ground := Ground.data }],
          guard := none },
        { dst := some 128,
          op :=
            Op.call
              { callee := Callee.builtin Builtin.append, args := #[Operand.tmp 124, Operand.tmp 127],
                argTypes := #[65, 65] },
          type := 65, pos := "ref.go:163",
          after :=
            #[{ on := 7, ground := Ground.data }, { on := 10, ground := Ground.data },
              { on := 7, ground := Ground.chain }],
          guard := none },
        { dst := some 6, op := Op.assign (Operand.tmp 128), type := 65, pos := "ref.go:163",
          after :=
            #[{ on := 11, ground := Ground.data }, { on := 11, ground := Ground.chain },
              { on := 0, ground := Ground.phase }, { on := 1, ground := Ground.phase },
              { on := 2, ground := Ground.phase }, { on := 3, ground := Ground.phase },
              { on := 4, ground := Ground.phase }, { on := 5, ground := Ground.phase },
              { on := 6, ground := Ground.phase }, { on := 7, ground := Ground.phase },
              { on := 8, ground := Ground.phase }, { on := 9, ground := Ground.phase },
              { on := 10, ground := Ground.phase }, { on := 11, ground := Ground.phase }],
          guard := none }] true) Q { tmps := #[s0, s1, s2, s3, s4, s5, .slice (some ⟨g6, 0, none⟩) 0 0, s7, s8, .int .i64 (n2 : Int), .int .i64 (ps : Int), s11, s12, s13, s14, s15, s16, s17, s18, s19, s20, s21, s22, s23, s24, s25, s26, s27, s28, s29, s30, s31, s32, s33, s34, s35, s36, s37, s38, s39, s40, s41, s42, s43, s44, s45, s46, s47, s48, s49, s50, s51, s52, s53, s54, s55, s56, s57, s58, s59, s60, s61, s62, s63, s64, s65, s66, s67, s68, s69, s70, s71, s72, s73, s74, s75, s76, s77, s78, s79, s80, s81, s82, s83, s84, s85, s86, s87, s88, s89, s90, s91, s92, s93, s94, s95, s96, s97, s98, s99, s100, s101, s102, s103, s104, s105, s106, s107, s108, s109, s110, s111, s112, s113, s114, s115, s116, s117, s118, s119, s120, s121, s122, s123, s124, s125, s126, s127, s128, s129, s130, s131, s132, s133, s134], defers := [] } wr := by
  obtain ⟨i3, hi3, hz0, hz1, hz2⟩ := info_parts infoInt
  have H := Lib.hid h
  clear h
  subst hps
  obtain ⟨X1, hX1⟩ : ∃ X1 : List Value, X1 = [] := ⟨_, rfl⟩
  obtain ⟨X3, hX3⟩ : ∃ X3 : List Value, X3 = [] := ⟨_, rfl⟩
  have HNA1 : Hid ((some (⟨g6, 0, none⟩ : Addr) : Option Addr) = none → (0 : Nat) = 0 ∧ (0 : Nat) = 0) := Lib.hid fun e => by cases e
  have HNA3 := HNA1
  have hln1 : Hid (X1.length = 0) := Lib.hid (by rw [hX1]; rfl)
  have hln3 : Hid (X3.length = 0) := Lib.hid (by rw [hX3]; rfl)
  have hc1 : Hid (∀ W, Below wr.heap.size wr W → ∀ b off, (some (⟨g6, 0, none⟩ : Addr) : Option Addr) = some ⟨b, off, none⟩ → ∀ j (hj : j < X1.length), W.cell? ⟨b, off + j, none⟩ = some X1[j]) := Lib.hid (fun W _ b off e j hj => by subst hX1; simp at hj)
  have hc3 : Hid (∀ W, Below wr.heap.size wr W → ∀ b off, (some (⟨g6, 0, none⟩ : Addr) : Option Addr) = some ⟨b, off, none⟩ → ∀ j (hj : j < X3.length), W.cell? ⟨b, off + j, none⟩ = some X3[j]) := Lib.hid (fun W _ b off e j hj => by subst hX3; simp at hj)
  have HFL1 : Hid (∀ ad, (some (⟨g6, 0, none⟩ : Addr) : Option Addr) = some ad → ad = ⟨ad.block, ad.off, none⟩) := Lib.hid fun ad e => by cases e; rfl
  have HFL3 := HFL1
  have HO1 : Hid (∀ u ∈ X1, u.oneCell' = true) := Lib.hid (by rw [hX1]; intro u hu; simp at hu)
  have HO3 : Hid (∀ u ∈ X3, u.oneCell' = true) := Lib.hid (by rw [hX3]; intro u hu; simp at hu)
  have HFIN9 : Hid (([] : List Value) ++ X1 ++ [Value.int .i64 (n2 : Int)] ++ X3 = ((([] : List Nat).take 0 ++ n2 :: ([] : List Nat).drop 0).map nvI)) := by
    show _ = _
    rw [hX1, hX3]
    simp [nvI]
  have H63 : Hid (0 + 0 ≤ maxLen ∧ 0 + 0 + 1 ≤ maxLen ∧ 0 + 0 + 1 + 0 ≤ maxLen) := by show _ ∧ _; unfold maxLen; omega
  have HBY : Hid ((0 + 0) * 8 ≤ 140737488355328 ∧ (0 + 0 + 1) * 8 ≤ 140737488355328 ∧ (0 + 0 + 1 + 0) * 8 ≤ 140737488355328) := by show _ ∧ _; omega
  have HLEN : Hid (0 + 0 + 1 + 0 = 0 + 1) := Lib.hid rfl
  clear hX1 hX3
  have HBE : Hid (Below wr.heap.size wr (wr.alloc (Obj.cells #[] 3)).drew) := Lib.hid ((Below.refl wr.heap.size wr).alloc (Nat.le_refl _) (Obj.cells #[] 3)).drew
  have HBEO : Hid (Below wr.heap.size wr ((wr.alloc (Obj.cells #[] 3)).alloc (Obj.cells #[.int .i64 (n2 : Int)] 3)).drew) := Lib.hid (((Below.refl wr.heap.size wr).alloc (Nat.le_refl _) (Obj.cells #[] 3)).alloc ((Below.refl wr.heap.size wr).alloc (Nat.le_refl _) (Obj.cells #[] 3)).size (Obj.cells #[.int .i64 (n2 : Int)] 3)).drew
  have HBOE : Hid (Below wr.heap.size wr ((wr.alloc (Obj.cells #[.int .i64 (n2 : Int)] 3)).alloc (Obj.cells #[] 3)).drew) := Lib.hid (((Below.refl wr.heap.size wr).alloc (Nat.le_refl _) (Obj.cells #[.int .i64 (n2 : Int)] 3)).alloc ((Below.refl wr.heap.size wr).alloc (Nat.le_refl _) (Obj.cells #[.int .i64 (n2 : Int)] 3)).size (Obj.cells #[] 3)).drew
  have HOWE : Hid (((wr.alloc (Obj.cells #[] 3)).drew).ownsRow wr.heap.size 3 1 (.slice (some ⟨wr.heap.size, 0, none⟩) 0 0) 0 []) := Lib.hid (own_empty wr 3)
  have HOWEO : Hid ((((wr.alloc (Obj.cells #[] 3)).alloc (Obj.cells #[.int .i64 (n2 : Int)] 3)).drew).ownsRow wr.heap.size 3 1 (.slice (some ⟨wr.heap.size, 0, none⟩) 0 0) 0 []) := Lib.hid ((own_empty wr 3).alloc (Obj.cells #[.int .i64 (n2 : Int)] 3))
  have hsz1 : ∀ ob, (wr.alloc ob).heap.size = wr.heap.size + 1 := fun ob => by show (wr.heap.push _).size = _; simp
  have HOWOE : Hid ((((wr.alloc (Obj.cells #[.int .i64 (n2 : Int)] 3)).alloc (Obj.cells #[] 3)).drew).ownsRow wr.heap.size 3 1 (.slice (some ⟨wr.heap.size + 1, 0, none⟩) 0 0) 0 []) := by
    have := own_low9 (own_empty (wr.alloc (Obj.cells #[.int .i64 (n2 : Int)] 3)) 3) ((Below.refl wr.heap.size wr).alloc (Nat.le_refl _) (Obj.cells #[.int .i64 (n2 : Int)] 3)).size
    rw [hsz1] at this
    exact Lib.hid this
  have HCB : Hid (∀ b off, (some (⟨wr.heap.size + 1, 0, none⟩ : Addr)) = some ⟨b, off, none⟩ → ∀ j (hj : j < [Value.int .i64 (n2 : Int)].length), (((wr.alloc (Obj.cells #[] 3)).alloc (Obj.cells #[.int .i64 (n2 : Int)] 3)).drew).cell? ⟨b, off + j, none⟩ = some [Value.int .i64 (n2 : Int)][j]) := by
    have := one_cell (wr.alloc (Obj.cells #[] 3)) (.int .i64 (n2 : Int)) 3
    rw [hsz1] at this
    exact Lib.hid this
  have HCC : Hid (∀ b off, (some (⟨wr.heap.size, 0, none⟩ : Addr)) = some ⟨b, off, none⟩ → ∀ j (hj : j < [Value.int .i64 (n2 : Int)].length), (((wr.alloc (Obj.cells #[.int .i64 (n2 : Int)] 3)).alloc (Obj.cells #[] 3)).drew).cell? ⟨b, off + j, none⟩ = some [Value.int .i64 (n2 : Int)][j]) := Lib.hid (one_alloc (one_cell wr _ _) (Obj.cells #[] 3))
  have HNEB : Hid (some (wr.heap.size + 1) ≠ (Value.slice (some ⟨wr.heap.size, 0, none⟩) 0 0).ownBlock) := Lib.hid (by show some (wr.heap.size + 1) ≠ some wr.heap.size; simp)
  have HNEC : Hid (some wr.heap.size ≠ (Value.slice (some ⟨wr.heap.size + 1, 0, none⟩) 0 0).ownBlock) := Lib.hid (by show some wr.heap.size ≠ some (wr.heap.size + 1); simp)
  clear hsz1
  have HNS : Hid (∀ {g : Nat}, (some (⟨g, 0, none⟩ : Addr)) = none → (1 : Nat) = 0 ∧ (1 : Nat) = 0) := Lib.hid fun e => by cases e
  have HFS : Hid (∀ {g : Nat}, ∀ ad, (some (⟨g, 0, none⟩ : Addr)) = some ad → ad = ⟨ad.block, ad.off, none⟩) := Lib.hid fun ad e => by cases e; rfl
  have HOL : Hid (∀ u ∈ [Value.int .i64 (n2 : Int)], u.oneCell' = true) := Lib.hid (by intro u hu; simp at hu; subst hu; rfl)
  go_region_held3 (fun _ => True) (first | trivial | go_keep)
    (first
      | ((with_reducible refine at_w9 ((wr.alloc (Obj.cells #[] 3)).drew) ?_); refine step_app_g rfl _ _ 65 (by exact rfl) wr.heap.size 3 i3 (.int .i64 0) 8 tyInts hi3 hz0 hz1 hz2 rfl (.slice (some ⟨wr.heap.size, 0, none⟩) 0 0) 0 [] (by exact rfl) HOWE.out (some ⟨g6, 0, none⟩) 0 0 X1 (by exact rfl) HNA1.out hln1.out (hc1.out _ HBE.out) HFL1.out HO1.out H63.out.1 HBY.out.1 HBE.out (Nat.le_refl _) ?_; intro vaA waA hownaA hbaA hgaA)
      | ((with_reducible refine at_w9 (((wr.alloc (Obj.cells #[] 3)).alloc (Obj.cells #[.int .i64 (n2 : Int)] 3)).drew) ?_); refine step_app_g rfl _ _ 65 (by exact rfl) wr.heap.size 3 i3 (.int .i64 0) 8 tyInts hi3 hz0 hz1 hz2 rfl (.slice (some ⟨wr.heap.size, 0, none⟩) 0 0) 0 [] (by exact rfl) HOWEO.out (some ⟨g6, 0, none⟩) 0 0 X1 (by exact rfl) HNA1.out hln1.out (hc1.out _ HBEO.out) HFL1.out HO1.out H63.out.1 HBY.out.1 HBEO.out (Nat.le_refl _) ?_; intro vaB waB hownaB hbaB hgaB)
      | ((with_reducible refine at_w9 (((wr.alloc (Obj.cells #[.int .i64 (n2 : Int)] 3)).alloc (Obj.cells #[] 3)).drew) ?_); refine step_app_g rfl _ _ 65 (by exact rfl) wr.heap.size 3 i3 (.int .i64 0) 8 tyInts hi3 hz0 hz1 hz2 rfl (.slice (some ⟨wr.heap.size + 1, 0, none⟩) 0 0) 0 [] (by exact rfl) HOWOE.out (some ⟨g6, 0, none⟩) 0 0 X1 (by exact rfl) HNA1.out hln1.out (hc1.out _ HBOE.out) HFL1.out HO1.out H63.out.1 HBY.out.1 HBOE.out (Nat.le_refl _) ?_; intro vaC waC hownaC hbaC hgaC)
      | ((with_reducible refine at_w9 (waA.alloc (Obj.cells #[.int .i64 (n2 : Int)] 3)) ?_); refine step_app_g rfl _ _ 65 (by exact rfl) wr.heap.size 3 i3 (.int .i64 0) 8 tyInts hi3 hz0 hz1 hz2 rfl vaA (0 + 0) _ (by exact rfl) (hownaA.alloc _) (some ⟨waA.heap.size, 0, none⟩) 1 1 [.int .i64 (n2 : Int)] (by exact rfl) HNS.out rfl (one_cell waA _ _) HFS.out HOL.out H63.out.2.1 HBY.out.2.1 (hbaA.alloc hbaA.size _) (Nat.le_refl _) ?_; intro vq wq hownq hbq hgq)
      | ((with_reducible refine at_w9 (waB) ?_); refine step_app_g rfl _ _ 65 (by exact rfl) wr.heap.size 3 i3 (.int .i64 0) 8 tyInts hi3 hz0 hz1 hz2 rfl vaB (0 + 0) _ (by exact rfl) hownaB (some ⟨wr.heap.size + 1, 0, none⟩) 1 1 [.int .i64 (n2 : Int)] (by exact rfl) HNS.out rfl (one_kept HCB.out hgaB HNEB.out) HFS.out HOL.out H63.out.2.1 HBY.out.2.1 hbaB (Nat.le_refl _) ?_; intro vq wq hownq hbq hgq)
      | ((with_reducible refine at_w9 (waC) ?_); refine step_app_g rfl _ _ 65 (by exact rfl) wr.heap.size 3 i3 (.int .i64 0) 8 tyInts hi3 hz0 hz1 hz2 rfl vaC (0 + 0) _ (by exact rfl) hownaC (some ⟨wr.heap.size, 0, none⟩) 1 1 [.int .i64 (n2 : Int)] (by exact rfl) HNS.out rfl (one_kept HCC.out hgaC HNEC.out) HFS.out HOL.out H63.out.2.1 HBY.out.2.1 hbaC (Nat.le_refl _) ?_; intro vq wq hownq hbq hgq)
      | ((with_reducible refine at_w9 (wq) ?_); refine step_app_g rfl _ _ 65 (by exact rfl) wr.heap.size 3 i3 (.int .i64 0) 8 tyInts hi3 hz0 hz1 hz2 rfl vq (0 + 0 + 1) _ (by exact rfl) hownq (some ⟨g6, 0, none⟩) 0 0 X3 (by exact rfl) HNA3.out hln3.out (hc3.out _ hbq) HFL3.out HO3.out H63.out.2.2 HBY.out.2.2 hbq (Nat.le_refl _) ?_; intro ve we howne hbe hge))
  all_goals (rw [HLEN.out] at howne; rw [HFIN9.out] at howne)
  all_goals exact H.out _ _ _ _ _ _ _ _ _ _ _ _ _ _ howne hbe

set_option maxRecDepth 20000 in
set_option maxHeartbeats 8000000 in
theorem ins_some (n2 ps : Nat) (g6 L c6 : Nat) (out : List Nat) (wr : World) (s0 s1 s2 s3 s4 s5 s7 s8 s11 s12 s13 s14 s15 s16 s17 s18 s19 s20 s21 s22 s23 s24 s25 s26 s27 s28 s29 s30 s31 s32 s33 s34 s35 s36 s37 s38 s39 s40 s41 s42 s43 s44 s45 s46 s47 s48 s49 s50 s51 s52 s53 s54 s55 s56 s57 s58 s59 s60 s61 s62 s63 s64 s65 s66 s67 s68 s69 s70 s71 s72 s73 s74 s75 s76 s77 s78 s79 s80 s81 s82 s83 s84 s85 s86 s87 s88 s89 s90 s91 s92 s93 s94 s95 s96 s97 s98 s99 s100 s101 s102 s103 s104 s105 s106 s107 s108 s109 s110 s111 s112 s113 s114 s115 s116 s117 s118 s119 s120 s121 s122 s123 s124 s125 s126 s127 s128 s129 s130 s131 s132 s133 s134 : Value) (Q : Exit → Act → World → Prop)
    (hps : ps ≤ L) (hL : out.length = L) (hLc : L ≤ c6) (hL9 : L ≤ 1000) (hc0 : c6 ≠ 0) (hcell : ∀ W, Below wr.heap.size wr W → ∀ j (hj : j < (out.map nvI).length), W.cell? ⟨g6, j, none⟩ = some (out.map nvI)[j])
    (h : ∀ v z117 z118 z119 z120 z121 z122 z123 z124 z125 z126 z127 z128 w', w'.ownsRow wr.heap.size 3 1 v (L + 1) ((out.take ps ++ n2 :: out.drop ps).map nvI) → Below wr.heap.size wr w' → Q .normal { tmps := #[s0, s1, s2, s3, s4, s5, v, s7, s8, .int .i64 (n2 : Int), .int .i64 (ps : Int), s11, s12, s13, s14, s15, s16, s17, s18, s19, s20, s21, s22, s23, s24, s25, s26, s27, s28, s29, s30, s31, s32, s33, s34, s35, s36, s37, s38, s39, s40, s41, s42, s43, s44, s45, s46, s47, s48, s49, s50, s51, s52, s53, s54, s55, s56, s57, s58, s59, s60, s61, s62, s63, s64, s65, s66, s67, s68, s69, s70, s71, s72, s73, s74, s75, s76, s77, s78, s79, s80, s81, s82, s83, s84, s85, s86, s87, s88, s89, s90, s91, s92, s93, s94, s95, s96, s97, s98, s99, s100, s101, s102, s103, s104, s105, s106, s107, s108, s109, s110, s111, s112, s113, s114, s115, s116, z117, z118, z119, z120, z121, z122, z123, z124, z125, z126, z127, z128, s129, s130, s131, s132, s133, s134], defers := [] } w') :
    Code.wp Tryz.prog (Code.region 47 #[{ dst := some 117, op := Op.buildSlice 65 0 #[], type := 65, pos := "ref.go:163", after := #[], guard := none },
        { dst := some 118, op := Op.move (Operand.tmp 6), type := 65, pos := "ref.go:163", after := #[],
          guard := none },
        { dst := some 119, op := Op.move (Operand.tmp 10), type := 3, pos := "ref.go:163", after := #[],
          guard := none },
        { dst := some 120, op := Op.slice 65 (Operand.tmp 118) none (some (Operand.tmp 119)) none, type := 65,
          pos := "ref.go:163", after := #[{ on := 1, ground := Ground.data }, { on := 2, ground := Ground.data }],
          guard := none },
        { dst := some 121,
          op :=
            Op.call
              { callee := Callee.builtin Builtin.append, args := #[Operand.tmp 117, Operand.tmp 120],
                argTypes := #[65, 65] },
          type := 65, pos := "ref.go:163",
          after := #[{ on := 0, ground := Ground.data }, { on := 3, ground := Ground.data }], guard := none },
        { dst := some 122, op := Op.move (Operand.tmp 9), type := 3, pos := "ref.go:163", after := #[], guard := none },
        { dst := some 123, op := Op.buildSlice 65 1 #[(0, Operand.tmp 122)], type := 65, pos := "ref.go:163",
          after := #[{ on := 5, ground := Ground.data }], guard := none },
        { dst := some 124,
          op :=
            Op.call
              { callee := Callee.builtin Builtin.append, args := #[Operand.tmp 121, Operand.tmp 123],
                argTypes := #[65, 65] },
          type := 65, pos := "ref.go:163",
          after :=
            #[{ on := 4, ground := Ground.data }, { on := 6, ground := Ground.data },
              { on := 4, ground := Ground.chain }],
          guard := none },
        { dst := some 125, op := Op.move (Operand.tmp 6), type := 65, pos := "ref.go:163", after := #[],
          guard := none },
        { dst := some 126, op := Op.move (Operand.tmp 10), type := 3, pos := "ref.go:163", after := #[],
          guard := none },
        { dst := some 127, op := Op.slice 65 (Operand.tmp 125) (some (Operand.tmp 126)) none none, type := 65,
          pos := "ref.go:163", after := #[{ on := 8, ground := Ground.data }, { on := 9, ground := Ground.data }],
          guard := none },
        { dst := some 128,
          op :=
            Op.call
              { callee := Callee.builtin Builtin.append, args := #[Operand.tmp 124, Operand.tmp 127],
                argTypes := #[65, 65] },
          type := 65, pos := "ref.go:163",
          after :=
            #[{ on := 7, ground := Ground.data }, { on := 10, ground := Ground.data },
              { on := 7, ground := Ground.chain }],
          guard := none },
        { dst := some 6, op := Op.assign (Operand.tmp 128), type := 65, pos := "ref.go:163",
          after :=
            #[{ on := 11, ground := Ground.data }, { on := 11, ground := Ground.chain },
              { on := 0, ground := Ground.phase }, { on := 1, ground := Ground.phase },
              { on := 2, ground := Ground.phase }, { on := 3, ground := Ground.phase },
              { on := 4, ground := Ground.phase }, { on := 5, ground := Ground.phase },
              { on := 6, ground := Ground.phase }, { on := 7, ground := Ground.phase },
              { on := 8, ground := Ground.phase }, { on := 9, ground := Ground.phase },
              { on := 10, ground := Ground.phase }, { on := 11, ground := Ground.phase }],
          guard := none }] true) Q { tmps := #[s0, s1, s2, s3, s4, s5, .slice (some ⟨g6, 0, none⟩) L c6, s7, s8, .int .i64 (n2 : Int), .int .i64 (ps : Int), s11, s12, s13, s14, s15, s16, s17, s18, s19, s20, s21, s22, s23, s24, s25, s26, s27, s28, s29, s30, s31, s32, s33, s34, s35, s36, s37, s38, s39, s40, s41, s42, s43, s44, s45, s46, s47, s48, s49, s50, s51, s52, s53, s54, s55, s56, s57, s58, s59, s60, s61, s62, s63, s64, s65, s66, s67, s68, s69, s70, s71, s72, s73, s74, s75, s76, s77, s78, s79, s80, s81, s82, s83, s84, s85, s86, s87, s88, s89, s90, s91, s92, s93, s94, s95, s96, s97, s98, s99, s100, s101, s102, s103, s104, s105, s106, s107, s108, s109, s110, s111, s112, s113, s114, s115, s116, s117, s118, s119, s120, s121, s122, s123, s124, s125, s126, s127, s128, s129, s130, s131, s132, s133, s134], defers := [] } wr := by
  obtain ⟨i3, hi3, hz0, hz1, hz2⟩ := info_parts infoInt
  have H := Lib.hid h
  clear h
  obtain ⟨X1, hX1⟩ : ∃ X1 : List Value, X1 = (out.take ps).map nvI := ⟨_, rfl⟩
  obtain ⟨X3, hX3⟩ : ∃ X3 : List Value, X3 = (out.drop ps).map nvI := ⟨_, rfl⟩
  obtain ⟨ad2, had2⟩ : ∃ ad2 : Addr, (if c6 = ps then some (⟨g6, 0, none⟩ : Addr) else some ⟨g6, ps, none⟩) = some ad2 := by
    by_cases hcp : c6 = ps
    · exact ⟨_, if_pos hcp⟩
    · exact ⟨_, if_neg hcp⟩
  have HNA1 : Hid ((some (⟨g6, 0, none⟩ : Addr)) = none → c6 = 0 ∧ ps = 0) := Lib.hid fun e => by cases e
  have HNA3 : Hid ((some ad2 : Option Addr) = none → c6 - ps = 0 ∧ L - ps = 0) := Lib.hid fun e => by cases e
  have hln1 : Hid (X1.length = ps) := Lib.hid (by rw [hX1, List.length_map, List.length_take]; omega)
  have hln3 : Hid (X3.length = L - ps) := Lib.hid (by rw [hX3, List.length_map, List.length_drop]; omega)
  have hc1 : Hid (∀ W, Below wr.heap.size wr W → ∀ b off, (some (⟨g6, 0, none⟩ : Addr)) = some ⟨b, off, none⟩ → ∀ j (hj : j < X1.length), W.cell? ⟨b, off + j, none⟩ = some X1[j]) := by
    refine Lib.hid (fun W hW b off e j hj => ?_)
    injection e with e
    injection e with e1 e2 _
    subst e1 e2
    subst hX1
    have hj2 : j < (out.map nvI).length := by simp at hj ⊢; omega
    rw [Nat.zero_add, hcell W hW j hj2]
    simp
  have hc3 : Hid (∀ W, Below wr.heap.size wr W → ∀ b off, (some ad2 : Option Addr) = some ⟨b, off, none⟩ → ∀ j (hj : j < X3.length), W.cell? ⟨b, off + j, none⟩ = some X3[j]) := by
    refine Lib.hid (fun W hW b off e j hj => ?_)
    injection e with e
    subst e
    subst hX3
    have hjd : j < L - ps := by simp at hj; omega
    have hj2 : ps + j < (out.map nvI).length := by simp; omega
    rw [if_neg (by omega)] at had2
    injection had2 with had2
    injection had2 with f1 f2 _
    subst f1 f2
    rw [hcell W hW _ hj2]
    simp
  have HFL1 : Hid (∀ ad, (some (⟨g6, 0, none⟩ : Addr)) = some ad → ad = ⟨ad.block, ad.off, none⟩) := Lib.hid fun ad e => by cases e; rfl
  have HFL3 : Hid (∀ ad, (some ad2 : Option Addr) = some ad → ad = ⟨ad.block, ad.off, none⟩) := by
    refine Lib.hid fun ad e => ?_
    injection e with e
    subst e
    by_cases hcp : c6 = ps
    · rw [if_pos hcp] at had2
      injection had2 with had2
      subst had2
      rfl
    · rw [if_neg hcp] at had2
      injection had2 with had2
      subst had2
      rfl
  have HO1 : Hid (∀ u ∈ X1, u.oneCell' = true) := Lib.hid (by rw [hX1]; exact one_nv _)
  have HO3 : Hid (∀ u ∈ X3, u.oneCell' = true) := Lib.hid (by rw [hX3]; exact one_nv _)
  have HFIN9 : Hid (([] : List Value) ++ X1 ++ [Value.int .i64 (n2 : Int)] ++ X3 = ((out.take ps ++ n2 :: out.drop ps).map nvI)) := by
    show _ = _
    rw [hX1, hX3]
    simp [nvI]
  have H63 : Hid (0 + ps ≤ maxLen ∧ 0 + ps + 1 ≤ maxLen ∧ 0 + ps + 1 + (L - ps) ≤ maxLen) := by show _ ∧ _; unfold maxLen; omega
  have HBY : Hid ((0 + ps) * 8 ≤ 140737488355328 ∧ (0 + ps + 1) * 8 ≤ 140737488355328 ∧ (0 + ps + 1 + (L - ps)) * 8 ≤ 140737488355328) := by show _ ∧ _; omega
  have HLEN : Hid (0 + ps + 1 + (L - ps) = L + 1) := by show _ = _; omega
  have hcg0 : ¬ c6 = 0 := hc0
  have hpi1 : (ps : Int) ≤ (c6 : Int) := by omega
  have hpi2 : (ps : Int) ≤ (L : Int) := by omega
  clear hX1 hX3 hcell hL hc0 hL9
  have HBE : Hid (Below wr.heap.size wr (wr.alloc (Obj.cells #[] 3)).drew) := Lib.hid ((Below.refl wr.heap.size wr).alloc (Nat.le_refl _) (Obj.cells #[] 3)).drew
  have HBEO : Hid (Below wr.heap.size wr ((wr.alloc (Obj.cells #[] 3)).alloc (Obj.cells #[.int .i64 (n2 : Int)] 3)).drew) := Lib.hid (((Below.refl wr.heap.size wr).alloc (Nat.le_refl _) (Obj.cells #[] 3)).alloc ((Below.refl wr.heap.size wr).alloc (Nat.le_refl _) (Obj.cells #[] 3)).size (Obj.cells #[.int .i64 (n2 : Int)] 3)).drew
  have HBOE : Hid (Below wr.heap.size wr ((wr.alloc (Obj.cells #[.int .i64 (n2 : Int)] 3)).alloc (Obj.cells #[] 3)).drew) := Lib.hid (((Below.refl wr.heap.size wr).alloc (Nat.le_refl _) (Obj.cells #[.int .i64 (n2 : Int)] 3)).alloc ((Below.refl wr.heap.size wr).alloc (Nat.le_refl _) (Obj.cells #[.int .i64 (n2 : Int)] 3)).size (Obj.cells #[] 3)).drew
  have HOWE : Hid (((wr.alloc (Obj.cells #[] 3)).drew).ownsRow wr.heap.size 3 1 (.slice (some ⟨wr.heap.size, 0, none⟩) 0 0) 0 []) := Lib.hid (own_empty wr 3)
  have HOWEO : Hid ((((wr.alloc (Obj.cells #[] 3)).alloc (Obj.cells #[.int .i64 (n2 : Int)] 3)).drew).ownsRow wr.heap.size 3 1 (.slice (some ⟨wr.heap.size, 0, none⟩) 0 0) 0 []) := Lib.hid ((own_empty wr 3).alloc (Obj.cells #[.int .i64 (n2 : Int)] 3))
  have hsz1 : ∀ ob, (wr.alloc ob).heap.size = wr.heap.size + 1 := fun ob => by show (wr.heap.push _).size = _; simp
  have HOWOE : Hid ((((wr.alloc (Obj.cells #[.int .i64 (n2 : Int)] 3)).alloc (Obj.cells #[] 3)).drew).ownsRow wr.heap.size 3 1 (.slice (some ⟨wr.heap.size + 1, 0, none⟩) 0 0) 0 []) := by
    have := own_low9 (own_empty (wr.alloc (Obj.cells #[.int .i64 (n2 : Int)] 3)) 3) ((Below.refl wr.heap.size wr).alloc (Nat.le_refl _) (Obj.cells #[.int .i64 (n2 : Int)] 3)).size
    rw [hsz1] at this
    exact Lib.hid this
  have HCB : Hid (∀ b off, (some (⟨wr.heap.size + 1, 0, none⟩ : Addr)) = some ⟨b, off, none⟩ → ∀ j (hj : j < [Value.int .i64 (n2 : Int)].length), (((wr.alloc (Obj.cells #[] 3)).alloc (Obj.cells #[.int .i64 (n2 : Int)] 3)).drew).cell? ⟨b, off + j, none⟩ = some [Value.int .i64 (n2 : Int)][j]) := by
    have := one_cell (wr.alloc (Obj.cells #[] 3)) (.int .i64 (n2 : Int)) 3
    rw [hsz1] at this
    exact Lib.hid this
  have HCC : Hid (∀ b off, (some (⟨wr.heap.size, 0, none⟩ : Addr)) = some ⟨b, off, none⟩ → ∀ j (hj : j < [Value.int .i64 (n2 : Int)].length), (((wr.alloc (Obj.cells #[.int .i64 (n2 : Int)] 3)).alloc (Obj.cells #[] 3)).drew).cell? ⟨b, off + j, none⟩ = some [Value.int .i64 (n2 : Int)][j]) := Lib.hid (one_alloc (one_cell wr _ _) (Obj.cells #[] 3))
  have HNEB : Hid (some (wr.heap.size + 1) ≠ (Value.slice (some ⟨wr.heap.size, 0, none⟩) 0 0).ownBlock) := Lib.hid (by show some (wr.heap.size + 1) ≠ some wr.heap.size; simp)
  have HNEC : Hid (some wr.heap.size ≠ (Value.slice (some ⟨wr.heap.size + 1, 0, none⟩) 0 0).ownBlock) := Lib.hid (by show some wr.heap.size ≠ some (wr.heap.size + 1); simp)
  clear hsz1
  have HNS : Hid (∀ {g : Nat}, (some (⟨g, 0, none⟩ : Addr)) = none → (1 : Nat) = 0 ∧ (1 : Nat) = 0) := Lib.hid fun e => by cases e
  have HFS : Hid (∀ {g : Nat}, ∀ ad, (some (⟨g, 0, none⟩ : Addr)) = some ad → ad = ⟨ad.block, ad.off, none⟩) := Lib.hid fun ad e => by cases e; rfl
  have HOL : Hid (∀ u ∈ [Value.int .i64 (n2 : Int)], u.oneCell' = true) := Lib.hid (by intro u hu; simp at hu; subst hu; rfl)
  go_region_held3 (fun _ => True) (first | trivial | go_keep)
    (first
      | ((with_reducible refine at_w9 ((wr.alloc (Obj.cells #[] 3)).drew) ?_); refine step_app_g rfl _ _ 65 (by exact rfl) wr.heap.size 3 i3 (.int .i64 0) 8 tyInts hi3 hz0 hz1 hz2 rfl (.slice (some ⟨wr.heap.size, 0, none⟩) 0 0) 0 [] (by exact rfl) HOWE.out (some ⟨g6, 0, none⟩) ps c6 X1 (by exact rfl) HNA1.out hln1.out (hc1.out _ HBE.out) HFL1.out HO1.out H63.out.1 HBY.out.1 HBE.out (Nat.le_refl _) ?_; intro vaA waA hownaA hbaA hgaA)
      | ((with_reducible refine at_w9 (((wr.alloc (Obj.cells #[] 3)).alloc (Obj.cells #[.int .i64 (n2 : Int)] 3)).drew) ?_); refine step_app_g rfl _ _ 65 (by exact rfl) wr.heap.size 3 i3 (.int .i64 0) 8 tyInts hi3 hz0 hz1 hz2 rfl (.slice (some ⟨wr.heap.size, 0, none⟩) 0 0) 0 [] (by exact rfl) HOWEO.out (some ⟨g6, 0, none⟩) ps c6 X1 (by exact rfl) HNA1.out hln1.out (hc1.out _ HBEO.out) HFL1.out HO1.out H63.out.1 HBY.out.1 HBEO.out (Nat.le_refl _) ?_; intro vaB waB hownaB hbaB hgaB)
      | ((with_reducible refine at_w9 (((wr.alloc (Obj.cells #[.int .i64 (n2 : Int)] 3)).alloc (Obj.cells #[] 3)).drew) ?_); refine step_app_g rfl _ _ 65 (by exact rfl) wr.heap.size 3 i3 (.int .i64 0) 8 tyInts hi3 hz0 hz1 hz2 rfl (.slice (some ⟨wr.heap.size + 1, 0, none⟩) 0 0) 0 [] (by exact rfl) HOWOE.out (some ⟨g6, 0, none⟩) ps c6 X1 (by exact rfl) HNA1.out hln1.out (hc1.out _ HBOE.out) HFL1.out HO1.out H63.out.1 HBY.out.1 HBOE.out (Nat.le_refl _) ?_; intro vaC waC hownaC hbaC hgaC)
      | ((with_reducible refine at_w9 (waA.alloc (Obj.cells #[.int .i64 (n2 : Int)] 3)) ?_); refine step_app_g rfl _ _ 65 (by exact rfl) wr.heap.size 3 i3 (.int .i64 0) 8 tyInts hi3 hz0 hz1 hz2 rfl vaA (0 + ps) _ (by exact rfl) (hownaA.alloc _) (some ⟨waA.heap.size, 0, none⟩) 1 1 [.int .i64 (n2 : Int)] (by exact rfl) HNS.out rfl (one_cell waA _ _) HFS.out HOL.out H63.out.2.1 HBY.out.2.1 (hbaA.alloc hbaA.size _) (Nat.le_refl _) ?_; intro vq wq hownq hbq hgq)
      | ((with_reducible refine at_w9 (waB) ?_); refine step_app_g rfl _ _ 65 (by exact rfl) wr.heap.size 3 i3 (.int .i64 0) 8 tyInts hi3 hz0 hz1 hz2 rfl vaB (0 + ps) _ (by exact rfl) hownaB (some ⟨wr.heap.size + 1, 0, none⟩) 1 1 [.int .i64 (n2 : Int)] (by exact rfl) HNS.out rfl (one_kept HCB.out hgaB HNEB.out) HFS.out HOL.out H63.out.2.1 HBY.out.2.1 hbaB (Nat.le_refl _) ?_; intro vq wq hownq hbq hgq)
      | ((with_reducible refine at_w9 (waC) ?_); refine step_app_g rfl _ _ 65 (by exact rfl) wr.heap.size 3 i3 (.int .i64 0) 8 tyInts hi3 hz0 hz1 hz2 rfl vaC (0 + ps) _ (by exact rfl) hownaC (some ⟨wr.heap.size, 0, none⟩) 1 1 [.int .i64 (n2 : Int)] (by exact rfl) HNS.out rfl (one_kept HCC.out hgaC HNEC.out) HFS.out HOL.out H63.out.2.1 HBY.out.2.1 hbaC (Nat.le_refl _) ?_; intro vq wq hownq hbq hgq)
      | ((with_reducible refine at_w9 (wq) ?_); refine step_app_g rfl _ _ 65 (by exact rfl) wr.heap.size 3 i3 (.int .i64 0) 8 tyInts hi3 hz0 hz1 hz2 rfl vq (0 + ps + 1) _ (by exact rfl) hownq (some ad2) (L - ps) (c6 - ps) X3 (by exact rfl) HNA3.out hln3.out (hc3.out _ hbq) HFL3.out HO3.out H63.out.2.2 HBY.out.2.2 hbq (Nat.le_refl _) ?_; intro ve we howne hbe hge))
  all_goals (rw [HLEN.out] at howne; rw [HFIN9.out] at howne)
  all_goals exact H.out _ _ _ _ _ _ _ _ _ _ _ _ _ _ howne hbe
end

end Go.Proofs.YthoolifdmemceaaGreatDoor
