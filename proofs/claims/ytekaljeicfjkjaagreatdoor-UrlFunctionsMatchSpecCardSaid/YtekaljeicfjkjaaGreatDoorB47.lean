/-
The opener of layer 14: a host that came in (written by tools/gen-HoA.py).
The opener of a URL that came in (written by tools/gen-UrOp.py).
-/
import Derived.Test.YtekaljeicfjkjaaGreatDoorB08
import Derived.OpenShut
import Derived.ChangeSame
import Derived.Test.YtekaljeicfjkjaaGreatDoorB38
namespace Go.Proofs.YtekaljeicfjkjaaGreatDoor
section
open Go.RowKit
theorem zfu : Tryz.prog.underlying 3 = some (.int .i64) := by kernel_rfl
theorem zfv : Tryz.prog.underlying 23 = some (.int .u16) := by kernel_rfl
theorem zfw : Tryz.prog.underlying 22 = some (.int .u32) := by kernel_rfl
theorem zfx : Tryz.prog.underlying 9 = some .string := by kernel_rfl
theorem zfy {v : Int} (h : (Lit.int .u16 v).wf = true) : ∃ n : Nat, v = (n : Int) ∧ n < 65536 := by
 have h1 : IntKind.u16.min = 0 := rfl
 have h2 : IntKind.u16.max = 65535 := rfl
 simp [Lit.wf, h1, h2] at h
 exact ⟨v.toNat, by omega, by omega⟩
theorem zfz {v : Int} (h : (Lit.int .u32 v).wf = true) : ∃ n : Nat, v = (n : Int) ∧ n < 4294967296 := by
 have h1 : IntKind.u32.min = 0 := rfl
 have h2 : IntKind.u32.max = 4294967295 := rfl
 simp [Lit.wf, h1, h2] at h
 exact ⟨v.toNat, by omega, by omega⟩
open Go.ChangeShapes Go.WideShapes in
set_option maxRecDepth 100000 in
theorem zf0 {H : Type} {enc : TypeId × Value → H} {W : World} {held : Bool} {fuel : Nat} {c0 c1 c2 c3 c4 c5 c6 c7 : Value} {x : DataW H × List MemPlace} (hf : DataW.trod enc Tryz.prog W 0 (fun _ => true) held fuel 24 [c0, c1, c2, c3, c4, c5, c6, c7] = some x) :
 ∃ n0 n1 n2 n3 n4 n5 n6 n7 : Nat, c0 = .int .u16 n0 ∧ c1 = .int .u16 n1 ∧ c2 = .int .u16 n2 ∧ c3 = .int .u16 n3 ∧ c4 = .int .u16 n4 ∧ c5 = .int .u16 n5 ∧ c6 = .int .u16 n6 ∧ c7 = .int .u16 n7 ∧ G16 [n0, n1, n2, n3, n4, n5, n6, n7] := by
 have hc1 : Tryz.prog.cellsOf 23 = 1 := by kernel_rfl
 match fuel with
 | 0 => simp [DataW.trod] at hf
 | n + 1 =>
   unfold DataW.trod at hf
   rw [Tryz.underlying24] at hf
   simp [show List.range 8 = [0, 1, 2, 3, 4, 5, 6, 7] from rfl, hc1] at hf
   cases h0 : DataW.trod enc Tryz.prog W 0 (fun _ => true) held n 23 [c0] with
   | none => simp [h0] at hf
   | some y0 =>
     cases h1 : DataW.trod enc Tryz.prog W 0 (fun _ => true) held n 23 [c1] with
     | none => simp [h0, h1] at hf
     | some y1 =>
       cases h2 : DataW.trod enc Tryz.prog W 0 (fun _ => true) held n 23 [c2] with
       | none => simp [h0, h1, h2] at hf
       | some y2 =>
         cases h3 : DataW.trod enc Tryz.prog W 0 (fun _ => true) held n 23 [c3] with
         | none => simp [h0, h1, h2, h3] at hf
         | some y3 =>
           cases h4 : DataW.trod enc Tryz.prog W 0 (fun _ => true) held n 23 [c4] with
           | none => simp [h0, h1, h2, h3, h4] at hf
           | some y4 =>
             cases h5 : DataW.trod enc Tryz.prog W 0 (fun _ => true) held n 23 [c5] with
             | none => simp [h0, h1, h2, h3, h4, h5] at hf
             | some y5 =>
               cases h6 : DataW.trod enc Tryz.prog W 0 (fun _ => true) held n 23 [c6] with
               | none => simp [h0, h1, h2, h3, h4, h5, h6] at hf
               | some y6 =>
                 cases h7 : DataW.trod enc Tryz.prog W 0 (fun _ => true) held n 23 [c7] with
                 | none => simp [h0, h1, h2, h3, h4, h5, h6, h7] at hf
                 | some y7 =>
                   obtain ⟨x0, e0, _, w0⟩ := DataW.trod_int zfv h0
                   obtain ⟨x1, e1, _, w1⟩ := DataW.trod_int zfv h1
                   obtain ⟨x2, e2, _, w2⟩ := DataW.trod_int zfv h2
                   obtain ⟨x3, e3, _, w3⟩ := DataW.trod_int zfv h3
                   obtain ⟨x4, e4, _, w4⟩ := DataW.trod_int zfv h4
                   obtain ⟨x5, e5, _, w5⟩ := DataW.trod_int zfv h5
                   obtain ⟨x6, e6, _, w6⟩ := DataW.trod_int zfv h6
                   obtain ⟨x7, e7, _, w7⟩ := DataW.trod_int zfv h7
                   simp at e0 e1 e2 e3 e4 e5 e6 e7
                   subst e0 e1 e2 e3 e4 e5 e6 e7
                   obtain ⟨n0, rfl, b0⟩ := zfy w0
                   obtain ⟨n1, rfl, b1⟩ := zfy w1
                   obtain ⟨n2, rfl, b2⟩ := zfy w2
                   obtain ⟨n3, rfl, b3⟩ := zfy w3
                   obtain ⟨n4, rfl, b4⟩ := zfy w4
                   obtain ⟨n5, rfl, b5⟩ := zfy w5
                   obtain ⟨n6, rfl, b6⟩ := zfy w6
                   obtain ⟨n7, rfl, b7⟩ := zfy w7
                   refine ⟨n0, n1, n2, n3, n4, n5, n6, n7, rfl, rfl, rfl, rfl, rfl, rfl, rfl, rfl, ?_⟩
                   intro x hx
                   simp only [List.mem_cons, List.not_mem_nil, or_false] at hx
                   rcases hx with rfl | rfl | rfl | rfl | rfl | rfl | rfl | rfl <;> assumption
end

section
open Go.RowKit
theorem z46 {v : Int} (h : (Lit.int .i64 v).wf = true) : -9223372036854775808 ≤ v ∧ v ≤ 9223372036854775807 := by
 have h1 : IntKind.i64.min = -9223372036854775808 := rfl
 have h2 : IntKind.i64.max = 9223372036854775807 := rfl
 simp [Lit.wf, h1, h2] at h
 exact h
open Go.ChangeShapes Go.WideShapes Go.ChangeMaps in
set_option maxRecDepth 100000 in
theorem z47 {H : Type} {enc : TypeId × Value → H} {W : World} {held : Bool} {fuel : Nat} {c0 c1 c2 c3 c4 c5 c6 c7 c8 c9 c10 : Value} {x : DataW H × List MemPlace} (hf : DataW.trod enc Tryz.prog W 0 (fun _ => true) held fuel 26 [c0, c1, c2, c3, c4, c5, c6, c7, c8, c9, c10] = some x) :
 ∃ Z : Hv, [c0, c1, c2, c3, c4, c5, c6, c7, c8, c9, c10] = Z.cells.toList ∧ Z.Wf := by
 have hci : Tryz.prog.cellsOf 3 = 1 := by kernel_rfl
 have hcs : Tryz.prog.cellsOf 9 = 1 := by kernel_rfl
 have hc32 : Tryz.prog.cellsOf 22 = 1 := by kernel_rfl
 have hc8 : Tryz.prog.cellsOf 24 = 8 := by kernel_rfl
 obtain ⟨ys, n', _, _, _, hyl, hg⟩ := DataW.trod_struct Tryz.underlying26 hf
 obtain ⟨y0, y1, y2, y3, rfl⟩ : ∃ y0 y1 y2 y3, ys = [y0, y1, y2, y3] := by
  match ys, hyl with
  | [y0, y1, y2, y3], _ => exact ⟨y0, y1, y2, y3, rfl⟩
 have s0 : DataW.trod enc Tryz.prog W 0 (fun _ => true) held n' 3 [c0] = some y0 := by
  have := hg 0 _ rfl
  change DataW.trod _ _ _ _ _ _ _ 3 (List.take (Tryz.prog.cellsOf 3) _) = _ at this
  rw [hci] at this
  exact this
 have s1 : DataW.trod enc Tryz.prog W 0 (fun _ => true) held n' 9 [c1] = some y1 := by
  have := hg 1 _ rfl
  change DataW.trod _ _ _ _ _ _ _ 9 (List.take (Tryz.prog.cellsOf 9) _) = _ at this
  rw [hcs] at this
  exact this
 have s2 : DataW.trod enc Tryz.prog W 0 (fun _ => true) held n' 22 [c2] = some y2 := by
  have := hg 2 _ rfl
  change DataW.trod _ _ _ _ _ _ _ 22 (List.take (Tryz.prog.cellsOf 22) _) = _ at this
  rw [hc32] at this
  exact this
 have s3 : DataW.trod enc Tryz.prog W 0 (fun _ => true) held n' 24 [c3, c4, c5, c6, c7, c8, c9, c10] = some y3 := by
  have := hg 3 _ rfl
  change DataW.trod _ _ _ _ _ _ _ 24 (List.take (Tryz.prog.cellsOf 24) _) = _ at this
  rw [hc8] at this
  exact this
 obtain ⟨x0, e0, _, _⟩ := DataW.trod_int zfu s0
 obtain ⟨x1, e1, _, w1⟩ := DataW.trod_string zfx s1
 obtain ⟨x2, e2, _, w2⟩ := DataW.trod_int zfw s2
 obtain ⟨n0, n1, n2, n3, n4, n5, n6, n7, rfl, rfl, rfl, rfl, rfl, rfl, rfl, rfl, hG⟩ := zf0 s3
 simp at e0 e1 e2
 subst e0 e1 e2
 obtain ⟨m2, rfl, b2⟩ := zfz w2
 refine ⟨⟨x0, ls x1, m2, [n0, n1, n2, n3, n4, n5, n6, n7]⟩, ?_, b2, rfl, hG⟩
 unfold Hv.cells
 rw [zb1]
 rfl
open Go.ChangeShapes Go.WideShapes Go.ChangeMaps in
set_option maxRecDepth 100000 in
theorem open_url {H : Type} {enc : TypeId × Value → H} {W : World} {base : Nat} {held : Bool} {v : Value} {d : DataW H} {p : List MemPlace} (hval : Value.okWide Tryz.prog W .any base 28 v) (h : DataW.Trod enc Tryz.prog W 0 (fun _ => true) held 28 v d p) :
 ∃ Z : Uv, v = .agg Z.cells ∧ Z.UOk := by
 obtain ⟨cs, rfl, hsz⟩ := Go.WideShapes.okWide_struct Tryz.underlying28 hval
 have hc15 : Tryz.prog.cellsOf 28 = 15 := by kernel_rfl
 have hci : Tryz.prog.cellsOf 3 = 1 := by kernel_rfl
 have hcs : Tryz.prog.cellsOf 9 = 1 := by kernel_rfl
 have hch : Tryz.prog.cellsOf 26 = 11 := by kernel_rfl
 rw [hc15] at hsz
 obtain ⟨l⟩ := cs
 obtain ⟨u0, u1, u2, u3, u4, u5, u6, u7, u8, u9, u10, u11, u12, u13, u14, rfl⟩ : ∃ u0 u1 u2 u3 u4 u5 u6 u7 u8 u9 u10 u11 u12 u13 u14, l = [u0, u1, u2, u3, u4, u5, u6, u7, u8, u9, u10, u11, u12, u13, u14] := by
  match l, hsz with
  | [u0, u1, u2, u3, u4, u5, u6, u7, u8, u9, u10, u11, u12, u13, u14], _ => exact ⟨u0, u1, u2, u3, u4, u5, u6, u7, u8, u9, u10, u11, u12, u13, u14, rfl⟩
 obtain ⟨fuel, hf⟩ := h
 obtain ⟨ys, n', _, _, _, hyl, hg⟩ := DataW.trod_struct Tryz.underlying28 hf
 obtain ⟨y0, y1, y2, y3, y4, rfl⟩ : ∃ y0 y1 y2 y3 y4, ys = [y0, y1, y2, y3, y4] := by
  match ys, hyl with
  | [y0, y1, y2, y3, y4], _ => exact ⟨y0, y1, y2, y3, y4, rfl⟩
 have s0 : DataW.trod enc Tryz.prog W 0 (fun _ => true) held n' 9 [u0] = some y0 := by
  have := hg 0 _ rfl
  change DataW.trod _ _ _ _ _ _ _ 9 (List.take (Tryz.prog.cellsOf 9) _) = _ at this
  rw [hcs] at this
  exact this
 have s1 : DataW.trod enc Tryz.prog W 0 (fun _ => true) held n' 9 [u1] = some y1 := by
  have := hg 1 _ rfl
  change DataW.trod _ _ _ _ _ _ _ 9 (List.take (Tryz.prog.cellsOf 9) _) = _ at this
  rw [hcs] at this
  exact this
 have s2 : DataW.trod enc Tryz.prog W 0 (fun _ => true) held n' 26 [u2, u3, u4, u5, u6, u7, u8, u9, u10, u11, u12] = some y2 := by
  have := hg 2 _ rfl
  change DataW.trod _ _ _ _ _ _ _ 26 (List.take (Tryz.prog.cellsOf 26) _) = _ at this
  rw [hch] at this
  exact this
 have s3 : DataW.trod enc Tryz.prog W 0 (fun _ => true) held n' 3 [u13] = some y3 := by
  have := hg 3 _ rfl
  change DataW.trod _ _ _ _ _ _ _ 3 (List.take (Tryz.prog.cellsOf 3) _) = _ at this
  rw [hci] at this
  exact this
 have s4 : DataW.trod enc Tryz.prog W 0 (fun _ => true) held n' 9 [u14] = some y4 := by
  have := hg 4 _ rfl
  change DataW.trod _ _ _ _ _ _ _ 9 (List.take (Tryz.prog.cellsOf 9) _) = _ at this
  rw [hcs] at this
  exact this
 obtain ⟨x0, e0, _, _⟩ := DataW.trod_string zfx s0
 obtain ⟨x1, e1, _, _⟩ := DataW.trod_string zfx s1
 obtain ⟨Z, eZ, hZ⟩ := z47 s2
 obtain ⟨x3, e3, _, w3⟩ := DataW.trod_int zfu s3
 obtain ⟨x4, e4, _, _⟩ := DataW.trod_string zfx s4
 have b3 := z46 w3
 refine ⟨⟨ls x0, ls x1, Z, x3, ls x4⟩, ?_, hZ, b3.1, b3.2⟩
 simp at e0 e1 e3 e4
 subst e0 e1 e3 e4
 obtain ⟨k, n, v4, g⟩ := Z
 have eZ2 : [u2, u3, u4, u5, u6, u7, u8, u9, u10, u11, u12] = [.int .i64 k, .string (bs n), .int .u32 (v4 : Nat), .int .u16 ((g.getD 0 0 : Nat) : Int), .int .u16 ((g.getD 1 0 : Nat) : Int), .int .u16 ((g.getD 2 0 : Nat) : Int), .int .u16 ((g.getD 3 0 : Nat) : Int), .int .u16 ((g.getD 4 0 : Nat) : Int), .int .u16 ((g.getD 5 0 : Nat) : Int), .int .u16 ((g.getD 6 0 : Nat) : Int), .int .u16 ((g.getD 7 0 : Nat) : Int)] := eZ
 simp only [List.cons.injEq, and_true] at eZ2
 obtain ⟨rfl, rfl, rfl, rfl, rfl, rfl, rfl, rfl, rfl, rfl, rfl⟩ := eZ2
 show Value.agg _ = .agg (uc (bs (ls x0)) (bs (ls x1)) k (bs n) (v4 : Nat) g x3 (bs (ls x4)))
 rw [zb1, zb1, zb1]
 rfl
end

end Go.Proofs.YtekaljeicfjkjaaGreatDoor
