/-
  The walk of Ipv6Spellings: it returns true (written by tools/gen-I6W.py).
-/
import Derived.Test.YthihfhmclmmadaaDoorI6V
import Derived.Test.YthihfhmclmmadaaDoorMod
import Derived.Test.YthihfhmclmmadaaDoorMin2
import Derived.Test.YthihfhmclmmadaaDoorIpG
import Derived.BigQuiet
import Derived.Deep.QuietTactic
import Derived.Deep.Slices
import Derived.Deep.CutBlock
namespace Go.Proofs.YthihfhmclmmadaaDoor
open Go.RowKit

theorem drewN_bel6 (B : Nat) (w : World) (q : Nat) : Below B w (w.drewN q) := ⟨rfl, rfl, rfl, Nat.le_refl _, fun _ _ => rfl⟩
theorem RowA.drewN {w : World} {b : Nat} {C : List Nat} (h : RowA w b C) (q : Nat) : RowA (w.drewN q) b C := h.below (drewN_bel6 _ w q) h.lt
theorem row_drewN {w : World} {b : Nat} {t : TypeId} {c : Array Value} (h : Row w b t c) (q : Nat) : Row (w.drewN q) b t c := Row.below h (drewN_bel6 _ w q) h.lt
theorem quiet_same6 {P : Program} {f : FuncId} {args : Array Value} {w : World} {n : Nat} {v : Value}
    (h : Calls P f args (w.drewN n) fun e w' => e = .returned v ∧ w.drewN n = w') : Calls P f args (w.drewN n) fun e w'' => e = .returned v ∧ ∃ m, w'' = w.drewN m :=
  h.mono fun _ _ ⟨he, hm⟩ => ⟨he, n, hm.symm⟩
theorem fmtI_len (v : Nat) (h : v < 4294967296) : (bs (fmtI v)).size ≤ 70 := by
  have k1 := dec_size15 (v / 16777216) (by omega)
  have k2 := dec_size15 (v / 65536 % 256) (by omega)
  have k3 := dec_size15 (v / 256 % 256) (by omega)
  have k4 := dec_size15 (v % 256) (by omega)
  rw [bs_size] at k1 k2 k3 k4
  rw [bs_size]
  unfold fmtI
  simp only [joinL, List.length_append, List.length_cons]
  omega
/-- The array while the first loop clears it. -/
def Zd (a : List Nat) (f k : Nat) (C : List Nat) : Prop := C.length = 8 ∧ ∀ j, C.getD j 0 = if f ≤ j ∧ j < k then 0 else a.getD j 0
theorem Zd.start (a : List Nat) (f : Nat) (h : a.length = 8) : Zd a f f a := ⟨h, fun j => by rw [if_neg (by omega)]⟩
theorem Zd.next {a : List Nat} {f k : Nat} {C : List Nat} (h : Zd a f k C) (hf : f ≤ k) (hk : k < 8) : Zd a f (k + 1) (C.set k 0) := by
  refine ⟨by simp [h.1], fun j => ?_⟩
  have hj := h.2 j
  rw [List.getD_eq_getElem?_getD, List.getElem?_set]
  by_cases e : k = j
  · subst e
    rw [if_pos rfl, if_pos (by rw [h.1]; exact hk), if_pos (by omega)]; rfl
  · rw [if_neg e, ← List.getD_eq_getElem?_getD, hj]
    by_cases h1 : f ≤ j ∧ j < k
    · rw [if_pos h1, if_pos (by omega)]
    · rw [if_neg h1, if_neg (by omega)]
theorem Zd.zero {a : List Nat} {f k : Nat} {C : List Nat} (h : Zd a f k C) : ∀ j, f ≤ j → j < k → C.getD j 0 = 0 := fun j h1 h2 => by rw [h.2 j, if_pos ⟨h1, h2⟩]
theorem G16.getD {a : List Nat} (h : G16 a) (j : Nat) : a.getD j 0 < 65536 := by
  rw [List.getD_eq_getElem?_getD]
  cases he : a[j]? with
  | none => simp
  | some x => simp only [Option.getD_some]; exact h x (List.mem_of_getElem? he)
theorem Zd.bound {a : List Nat} {f k : Nat} {C : List Nat} (h : Zd a f k C) (ha : G16 a) (j : Nat) : C.getD j 0 < 65536 := by
  rw [h.2 j]; split
  · omega
  · exact ha.getD j

attribute [local irreducible] av RowA in
set_option maxRecDepth 20000 in
set_option maxHeartbeats 16000000 in
theorem walk6Sp (hP : P6Par 8) (hF : P6Fmt 10) (a : List Nat) (z0 z1 c : Int) (w : World) (ha : a.length = 8 ∧ G16 a)
    (hz : (-9223372036854775808 ≤ z0 ∧ z0 ≤ 9223372036854775807) ∧ (-9223372036854775808 ≤ z1 ∧ z1 ≤ 9223372036854775807)) (hc : (Lit.int .i64 c).wf = true) (hpw : Pow6 w) :
    Calls Tryd.prog 5 #[.agg (av a), .agg #[.int .i64 z0, .int .i64 z1], .int .i64 c] w (Yes w) := by
  obtain ⟨ha8, hag⟩ := ha
  obtain ⟨⟨hz0, hz1⟩, ⟨hz2, hz3⟩⟩ := hz
  obtain ⟨hc0, hc1⟩ := wf6_i64 hc
  have m1 := fun W => mod_any z0 8 (by omega) (by omega) hz0 hz1 W
  have m2 := fun W => mod_any z1 4 (by omega) (by omega) hz2 hz3 W
  have m3 := fun W => mod_any c 4 (by omega) (by omega) hc0 hc1 W
  obtain ⟨f, hf⟩ : ∃ j : Nat, z0 % 8 = (j : Int) := ⟨(z0 % 8).toNat, by omega⟩
  obtain ⟨n0, hn0⟩ : ∃ j : Nat, z1 % 4 = (j : Int) := ⟨(z1 % 4).toNat, by omega⟩
  obtain ⟨zp, hzp⟩ : ∃ j : Nat, c % 4 = (j : Int) := ⟨(c % 4).toNat, by omega⟩
  have hf8 : f < 8 := by omega
  have hn4 : n0 < 4 := by omega
  have hzp4 : zp < 4 := by omega
  rw [hf] at m1
  rw [hn0] at m2
  rw [hzp] at m3
  clear hf hn0 hzp hz0 hz1 hz2 hz3 hc0 hc1 hc
  obtain ⟨e0, he0⟩ : ∃ e0, e0 = f + n0 := ⟨_, rfl⟩
  have hfe0 : (f : Int) + (n0 : Int) = (e0 : Int) := by omega
  obtain ⟨n, hn⟩ : ∃ n, n = min n0 (8 - f) := ⟨_, rfl⟩
  obtain ⟨e, he⟩ : ∃ e, e = f + n := ⟨_, rfl⟩
  have hee : e ≤ e0 ∧ e ≤ 8 ∧ (e = e0 ∨ e = 8) := by omega
  obtain ⟨hee1, hee2, hee3⟩ := hee
  have hmin : ∀ (W : World) (ts : Array TypeId) (t : TypeId), (Builtin.min_ ts t #[.int .i64 (n0 : Int), .int .i64 ((8 : Int) - (f : Int))]).run Tryd.prog W = .ok (.int .i64 (n : Int)) W := fun W ts t => min_two (P := Tryd.prog) W ts t _ _ _ (by omega)
  have hfn : (f : Int) + (n : Int) = (e : Int) := by omega
  have HE0 := Lib.hid he0
  have HE := Lib.hid he
  have HN := Lib.hid hn
  have hfe : f ≤ e := by omega
  have hne4 : n < 4 := by omega
  clear he0 he hn
  have c9 := awake11_any hP hF
  go_enter Tryd.func5, Tryd.ntmps5
  go_wp2_with (first
    | (refine wpList_box_arr _ rfl 3 rfl _ _ rfl _ (av a) (by exact rfl) (by exact rfl) ?_
       intro W1 b3 hg1 hl1 hR1 hG1
       have hb1 := below_row0 (Below.refl w.heap.size w) hG1 (Nat.le_refl _)
       clear hG1))
  have hRz := row_new W1 #[.int .i64 z0, .int .i64 z1] 30
  have hA1 := (rowA_of hR1).grown0 (World.grownBy_alloc W1 (.cells #[.int .i64 z0, .int .i64 z1] 30) _)
  have hb2 := hb1.alloc hb1.size (.cells #[.int .i64 z0, .int .i64 z1] 30)
  generalize W1.alloc (.cells #[.int .i64 z0, .int .i64 z1] 30) = W2 at *
  have k0 := hRz.cell (k := 0) (by simp)
  have k1 := hRz.cell (k := 1) (by simp)
  simp only [List.getElem_toArray, List.getElem_cons_zero, List.getElem_cons_succ] at k0 k1
  clear hR1 hb1 hl1
  go_quiet ((go_at_call 12; first | with_reducible exact quiet_same6 (m1 _) | with_reducible exact quiet_same6 (m2 _)))

  have hA3 := hA1.drewN nq
  have hb3 := hb2.trans ((drewN_bel6 _ W2 nq))
  clear k0 k1 hA1 hb2 m1 m2 hRz
  generalize W2.drewN nq = W3 at *
  have hB3 : b3 < W3.heap.size := hA3.lt
  go_upto_block 0 with fail
  go_cut [9] from 22 to 34 (fun _ wx => ∃ C, Zd a f e C ∧ RowA wx b3 C ∧ Below w.heap.size w wx)
  case first =>
   go_wp2_with fail
   go_loopw [9] (fun i wr => ∃ (k : Nat) (C : List Nat), f ≤ k ∧ k ≤ e ∧ i = .int .i64 k ∧ Hid (Zd a f k C) ∧ RowA wr b3 C ∧ Below w.heap.size w wr) (fun i _ => 8 - (intOf i).toNat)
   case atStart => exact ⟨f, a, Nat.le_refl _, hfe, rfl, Lib.hid (Zd.start a f ha8), hA3, hb3⟩
   case round =>
     obtain ⟨k, C, hk1, hk2, rfl, HZ, hA, hb⟩ := hrel
     by_cases hlt : k < e
     · have d1 : decide ((k : Int) < (e0 : Int)) = true := decide_eq_true (by omega)
       have d2 : decide ((k : Int) < 8) = true := decide_eq_true (by omega)
       have hk8 : k < 8 := by omega
       have hkC : k < (av C).size := by rw [av_size, HZ.out.1]; exact hk8
       go_wp2_with (refine wpList_store_cell _ rfl rfl _ _ _ rfl b3 k (by exact rfl) _ (by exact rfl) (by exact rfl) _ (av C) (rowA_get hA) hkC sizeU16 ?_; intro w4 hr4 hg4)
       have hA4 : RowA w4 b3 (C.set k 0) := by
         have h : Row w4 b3 23 ((av C).setIfInBounds k (.int .u16 ((0 : Nat) : Int))) := hr4
         rw [av_set] at h
         exact rowA_of h
       have hb4 := below_row hb hg4 (Nat.le_refl _) hg1
       go_roundw
       case rel => exact ⟨k + 1, C.set k 0, by omega, by omega, by go_num, Lib.hid (HZ.out.next hk1 hk8), hA4, hb4⟩
       case measure => simp [intOf]; omega
     · have hZ : Zd a f e C := by have h := HZ.out; rwa [show k = e by omega] at h
       by_cases h8 : k < 8
       · have d1 : decide ((k : Int) < (e0 : Int)) = false := decide_eq_false (by omega)
         go_wp2_with fail
         go_meet
         exact ⟨C, hZ, hA, hb⟩
       · have d2 : decide ((k : Int) < 8) = false := decide_eq_false (by omega)
         go_wp2_with fail
         all_goals go_meet
         all_goals exact ⟨C, hZ, hA, hb⟩
  case rest =>
   obtain ⟨b, hZ, hA, hb⟩ := hcut
   obtain ⟨V, hV⟩ : ∃ V, V = wc := ⟨_, rfl⟩
   subst hV
   have HBD := Lib.hid (hZ.bound hag)
   have hb8 : b.length = 8 := hZ.1
   have HZ0 : Hid (∀ j, f ≤ j → j < f + n → b.getD j 0 = 0) := Lib.hid fun j h1 h2 => hZ.zero j h1 (by rw [HE.out]; exact h2)
   have hle3 : f ≤ 8 - n ∧ n ≤ 8 := by have := HE.out; omega
   obtain ⟨hle4, hle5⟩ := hle3
   clear hZ hB3 hA3 hb3 hee3 hee1
   go_upto_region 7 with fail
   go_cut [10] from 39 to 47 (fun d wx => V = wx ∧ ∃ dt : Bool, d = .bool dt ∧ (dt = true → e ≤ 6))
   case first =>
     obtain ⟨s2, hs2⟩ : ∃ s2, (Int.tmod c 2 == 0) = s2 := ⟨_, rfl⟩
     cases s2
     · go_wp2_with fail
       go_meet
       exact ⟨rfl, false, rfl, fun h => by cases h⟩
     · by_cases h6 : e ≤ 6
       · have d6 : decide ((e : Int) ≤ 6) = true := decide_eq_true (by omega)
         go_wp2_with fail
         go_meet
         exact ⟨rfl, true, rfl, fun _ => h6⟩
       · have d6 : decide ((e : Int) ≤ 6) = false := decide_eq_false (by omega)
         go_wp2_with fail
         go_meet
         exact ⟨rfl, false, rfl, fun h => by cases h⟩
   case rest =>
   obtain ⟨rfl, dt, rfl, hdt⟩ := hcut
   have HDT := Lib.hid hdt
   clear hdt hmin
   obtain ⟨nv, hnv⟩ : ∃ x : Int, x = (n : Int) := ⟨_, rfl⟩
   rw [← hnv] at hfn ⊢
   have HNV := Lib.hid hnv
   have hnv0 : 0 ≤ nv := by omega
   have hnv4 : nv < 4 := by omega
   clear hnv
   obtain ⟨up, hup⟩ : ∃ up, (Int.tmod c 3 == 0) = up := ⟨_, rfl⟩
   go_upto_block 2 with fail
   go_cut [11, 12] from 48 to 106 (fun s _ wx => ∃ Y, s = .string Y ∧ Y.size ≤ 200 ∧ Hid (parse6 (ls Y) = some b) ∧ RowA wx b3 b ∧ Below w.heap.size w wx)
   case first =>
     go_wp2_with fail
     go_loopw [11, 12] (fun s i wr => ∃ (k : Nat) (X : ByteArray), k ≤ 8 ∧ i = .int .i64 k ∧ s = .string X ∧ X.size ≤ 82 ∧ Hid (Sp6 b f n k X) ∧ RowA wr b3 b ∧ Below w.heap.size w wr) (fun _ i _ => 8 - (intOf i).toNat)
     case atStart => exact ⟨0, _, Nat.zero_le _, rfl, rfl, by decide, Lib.hid (Sp6.start b f n), hA, hb⟩
     case round =>
       clear hA hb
       obtain ⟨k, X, hk, rfl, rfl, hXs, HS, hA, hb⟩ := hrel
       by_cases hlt : k < 8
       · obtain ⟨kv, hkv⟩ : ∃ x : Int, x = (k : Int) := ⟨_, rfl⟩
         have HKV := Lib.hid hkv
         have hkn : kv.toNat = k := by omega
         have hkv0 : 0 ≤ kv := by omega
         have hkv8 : kv < 8 := by omega
         rw [← hkv]
         by_cases hA1 : k = f ∧ 0 < n
         · obtain ⟨hkf, hn0⟩ := hA1
           have t1 : (kv == (f : Int)) = true := by rw [beq_iff_eq]; omega
           have t2 : decide ((0 : Int) < nv) = true := decide_eq_true (by have := HNV.out; omega)
           have a1 : ¬ (9223372036854775807 < X.size + (⟨#[58, 58]⟩ : ByteArray).size) := by have : (⟨#[58, 58]⟩ : ByteArray).size = 2 := rfl; omega
           obtain ⟨nm, hnm⟩ : ∃ x : Int, x = nv - 1 := ⟨_, rfl⟩
           obtain ⟨km, hkm⟩ : ∃ x : Int, x = kv + nm := ⟨_, rfl⟩
           have e1 : nv - 1 = nm := hnm.symm
           have e2 : kv + nm = km := hkm.symm
           have e3 : km + 1 = (e : Int) := by have := HE.out; have := HNV.out; omega
           have hkm0 : 0 ≤ km ∧ km ≤ 8 := by have := HE.out; have := HNV.out; omega
           obtain ⟨hkm1, hkm2⟩ := hkm0
           have HJ : Hid (Sp6 b f n e (X ++ (⟨#[58, 58]⟩ : ByteArray))) := by
             have h := HS.out
             rw [hkf] at h
             rw [HE.out]
             exact Lib.hid (h.dbl hn0)
           have HSZ : Hid ((X ++ (⟨#[58, 58]⟩ : ByteArray)).size ≤ 82) := Lib.hid (HJ.out.size hb8)
           have HLT : Hid (k < e) := by have := HE.out; exact Lib.hid (by omega)
           clear hkv hnm hkm hkf hn0
           go_wp2_with fail
           go_roundw
           case rel => exact ⟨e, _, hee2, by first | rfl | go_num, rfl, HSZ.out, HJ, hA, hb⟩
           case measure => have h1 := HKV.out; have h2 := HLT.out; simp [intOf]; omega
         · obtain ⟨x, hx⟩ : ∃ x, x = b.getD k 0 := ⟨_, rfl⟩
           have hx16 : x < 65536 := by rw [hx]; exact HBD.out k
           have hcell : wr.cell? ⟨b3, k, none⟩ = some (.int .u16 (x : Int)) := by rw [hx]; exact hA.cell (by omega)
           have HX : Hid (hexL (grpT up x zp) = some (b.getD k 0)) := by rw [← hx]; exact Lib.hid (grpT_hex up x zp hx16)
           have g1 := fun W => group_any x zp up hx16 hzp4 W
           have HYS : Hid ((bs (grpT up x zp)).size ≤ 4) := Lib.hid (by rw [bs_size]; exact hex_len HX.out)
           clear hx
           by_cases hkf : k = f
           · have hn0 : n = 0 := by omega
             by_cases hk0 : k = 0
             · skip
               have t1 : (kv == (f : Int)) = true := by rw [beq_iff_eq]; omega
               have t2 : decide ((0 : Int) < nv) = false := decide_eq_false (by have := HNV.out; omega)
               have t3 : decide ((0 : Int) < kv) = false := decide_eq_false (by omega)
               have t6 : (kv == 6) = false := by rw [beq_eq_false_iff_ne]; omega
               have HYSo := HYS.out
               have hnf : ¬ (k = f ∧ 0 < n) := hA1
               have HJ : Hid (Sp6 b f n (k + 1) (X ++ bs (grpT up x zp))) := Lib.hid (HS.out.bare hb8 hlt (by have := HE.out; omega) hnf HX.out)
               have HSZ := Lib.hid (HJ.out.size hb8)
               generalize bs (grpT up x zp) = Y at *
               have a3 : ¬ (9223372036854775807 < X.size + Y.size) := by omega
               clear hkv hnf HYSo hA1 hkf hk0 hn0
               go_wp2_with fail
               go_quiet ((first | (go_at_call 12; exact quiet_same6 (m3 _)) | (go_at_call 14; exact quiet_same6 (g1 _))))
               go_wp2_with fail
               go_roundw
               case rel => exact ⟨k + 1, _, by omega, by have := HKV.out; first | (congr 1; omega) | go_num, rfl, HSZ.out, HJ, hA.drewN _, hb.trans (drewN_bel6 _ _ _)⟩
               case measure => have := HKV.out; simp [intOf]; omega
             · skip
               by_cases h6 : k = 6
               · cases dt
                 · skip
                   have t1 : (kv == (f : Int)) = true := by rw [beq_iff_eq]; omega
                   have t2 : decide ((0 : Int) < nv) = false := decide_eq_false (by have := HNV.out; omega)
                   have t3 : decide ((0 : Int) < kv) = true := decide_eq_true (by omega)
                   have t4 : (nv == 0) = true := by have := HNV.out; rw [beq_iff_eq]; omega
                   have t6 : (kv == 6) = true := by rw [beq_iff_eq]; omega
                   have HYSo := HYS.out
                   have hnf : ¬ (k = f ∧ 0 < n) := hA1
                   have HJ : Hid (Sp6 b f n (k + 1) (X ++ (⟨#[58]⟩ : ByteArray) ++ bs (grpT up x zp))) := Lib.hid (HS.out.colon hb8 hlt (by omega) (by have := HE.out; omega) hnf HX.out)
                   have HSZ := Lib.hid (HJ.out.size hb8)
                   generalize bs (grpT up x zp) = Y at *
                   have a1 : ¬ (9223372036854775807 < X.size + (⟨#[58]⟩ : ByteArray).size) := by have : (⟨#[58]⟩ : ByteArray).size = 1 := rfl; omega
                   have a2 : ¬ (9223372036854775807 < (X ++ (⟨#[58]⟩ : ByteArray)).size + Y.size) := by rw [ByteArray.size_append]; have : (⟨#[58]⟩ : ByteArray).size = 1 := rfl; omega
                   clear hkv hnf HYSo hA1 hkf hk0 hn0 h6
                   go_wp2_with fail
                   go_quiet ((first | (go_at_call 12; exact quiet_same6 (m3 _)) | (go_at_call 14; exact quiet_same6 (g1 _))))
                   go_wp2_with fail
                   go_roundw
                   case rel => exact ⟨k + 1, _, by omega, by have := HKV.out; first | (congr 1; omega) | go_num, rfl, HSZ.out, HJ, hA.drewN _, hb.trans (drewN_bel6 _ _ _)⟩
                   case measure => have := HKV.out; simp [intOf]; omega
                 · skip
                   have t1 : (kv == (f : Int)) = true := by rw [beq_iff_eq]; omega
                   have t2 : decide ((0 : Int) < nv) = false := decide_eq_false (by have := HNV.out; omega)
                   have t3 : decide ((0 : Int) < kv) = true := decide_eq_true (by omega)
                   have t4 : (nv == 0) = true := by have := HNV.out; rw [beq_iff_eq]; omega
                   have t6 : (kv == 6) = true := by rw [beq_iff_eq]; omega
                   obtain ⟨x6, hx6⟩ : ∃ x, x = b.getD 6 0 := ⟨_, rfl⟩
                   obtain ⟨x7, hx7⟩ : ∃ x, x = b.getD 7 0 := ⟨_, rfl⟩
                   have l6 : x6 < 65536 := by rw [hx6]; exact HBD.out 6
                   have l7 : x7 < 65536 := by rw [hx7]; exact HBD.out 7
                   have k6 : wr.cell? ⟨b3, 6, none⟩ = some (.int .u16 (x6 : Int)) := by rw [hx6]; exact hA.cell (by omega)
                   have k7 : wr.cell? ⟨b3, 7, none⟩ = some (.int .u16 (x7 : Int)) := by rw [hx7]; exact hA.cell (by omega)
                   obtain ⟨y6, hy6⟩ : ∃ y, y = x6 * 65536 := ⟨_, rfl⟩
                   have q6 : (x6 : Int) * 65536 = (y6 : Int) := by omega
                   have ly6 : y6 < 4294967296 := by omega
                   obtain ⟨v, hv⟩ : ∃ v, v = y6 + x7 := ⟨_, rfl⟩
                   have qv : (y6 : Int) + (x7 : Int) = (v : Int) := by omega
                   have lv : v < 4294967296 := by omega
                   have hle := HDT.out rfl
                   have HV6 : Hid (b.getD 6 0 = v / 65536) := by rw [← hx6]; exact Lib.hid (by omega)
                   have HV7 : Hid (b.getD 7 0 = v % 65536) := by rw [← hx7]; exact Lib.hid (by omega)
                   have HS6 : Hid (Sp6 b f n 6 X) := by have h := HS.out; rw [h6] at h; exact Lib.hid h
                   have HPD : Hid (parse6 (ls (X ++ (⟨#[58]⟩ : ByteArray) ++ bs (fmtI v))) = some b) := Lib.hid (HS6.out.dotted hb8 (by have := HE.out; omega) HZ0.out lv HV6.out HV7.out (by rw [if_pos (by have := HE.out; omega)]))
                   have f1 := fun W => refFormat_any (v : Int) (by omega) (by omega) W
                   rw [show ((v : Int)).toNat = v from rfl] at f1
                   have hfl := fmtI_len v lv
                   generalize bs (fmtI v) = Y at *
                   have a1 : ¬ (9223372036854775807 < X.size + (⟨#[58]⟩ : ByteArray).size) := by have : (⟨#[58]⟩ : ByteArray).size = 1 := rfl; omega
                   have a2 : ¬ (9223372036854775807 < (X ++ (⟨#[58]⟩ : ByteArray)).size + Y.size) := by rw [ByteArray.size_append]; have : (⟨#[58]⟩ : ByteArray).size = 1 := rfl; omega
                   have HSZ : Hid ((X ++ (⟨#[58]⟩ : ByteArray) ++ Y).size ≤ 200) := Lib.hid (by rw [ByteArray.size_append, ByteArray.size_append]; have : (⟨#[58]⟩ : ByteArray).size = 1 := rfl; omega)
                   clear hx6 hx7 hy6 hv hcell g1 hkv hA1 hkf hk0 hn0 h6 hle
                   go_wp2_with fail
                   refine (f1 _).mono ?_
                   rintro r w3 ⟨rfl, hb3'⟩
                   go_wp2_with fail
                   go_meet
                   exact ⟨_, rfl, HSZ.out, HPD, hA.below hb3' hA.lt, hb.trans (hb3'.mono hb.size)⟩
               · skip
                 have t1 : (kv == (f : Int)) = true := by rw [beq_iff_eq]; omega
                 have t2 : decide ((0 : Int) < nv) = false := decide_eq_false (by have := HNV.out; omega)
                 have t3 : decide ((0 : Int) < kv) = true := decide_eq_true (by omega)
                 have t4 : (nv == 0) = true := by have := HNV.out; rw [beq_iff_eq]; omega
                 have t6 : (kv == 6) = false := by rw [beq_eq_false_iff_ne]; omega
                 have HYSo := HYS.out
                 have hnf : ¬ (k = f ∧ 0 < n) := hA1
                 have HJ : Hid (Sp6 b f n (k + 1) (X ++ (⟨#[58]⟩ : ByteArray) ++ bs (grpT up x zp))) := Lib.hid (HS.out.colon hb8 hlt (by omega) (by have := HE.out; omega) hnf HX.out)
                 have HSZ := Lib.hid (HJ.out.size hb8)
                 generalize bs (grpT up x zp) = Y at *
                 have a1 : ¬ (9223372036854775807 < X.size + (⟨#[58]⟩ : ByteArray).size) := by have : (⟨#[58]⟩ : ByteArray).size = 1 := rfl; omega
                 have a2 : ¬ (9223372036854775807 < (X ++ (⟨#[58]⟩ : ByteArray)).size + Y.size) := by rw [ByteArray.size_append]; have : (⟨#[58]⟩ : ByteArray).size = 1 := rfl; omega
                 clear hkv hnf HYSo hA1 hkf hk0 hn0 h6
                 go_wp2_with fail
                 go_quiet ((first | (go_at_call 12; exact quiet_same6 (m3 _)) | (go_at_call 14; exact quiet_same6 (g1 _))))
                 go_wp2_with fail
                 go_roundw
                 case rel => exact ⟨k + 1, _, by omega, by have := HKV.out; first | (congr 1; omega) | go_num, rfl, HSZ.out, HJ, hA.drewN _, hb.trans (drewN_bel6 _ _ _)⟩
                 case measure => have := HKV.out; simp [intOf]; omega
           · by_cases hk0 : k = 0
             · skip
               have t1 : (kv == (f : Int)) = false := by rw [beq_eq_false_iff_ne]; omega
               have t3 : decide ((0 : Int) < kv) = false := decide_eq_false (by omega)
               have t6 : (kv == 6) = false := by rw [beq_eq_false_iff_ne]; omega
               have HYSo := HYS.out
               have hnf : ¬ (k = f ∧ 0 < n) := hA1
               have HJ : Hid (Sp6 b f n (k + 1) (X ++ bs (grpT up x zp))) := Lib.hid (HS.out.bare hb8 hlt (by have := HE.out; omega) hnf HX.out)
               have HSZ := Lib.hid (HJ.out.size hb8)
               generalize bs (grpT up x zp) = Y at *
               have a3 : ¬ (9223372036854775807 < X.size + Y.size) := by omega
               clear hkv hnf HYSo hA1 hkf hk0 
               go_wp2_with fail
               go_quiet ((first | (go_at_call 12; exact quiet_same6 (m3 _)) | (go_at_call 14; exact quiet_same6 (g1 _))))
               go_wp2_with fail
               go_roundw
               case rel => exact ⟨k + 1, _, by omega, by have := HKV.out; first | (congr 1; omega) | go_num, rfl, HSZ.out, HJ, hA.drewN _, hb.trans (drewN_bel6 _ _ _)⟩
               case measure => have := HKV.out; simp [intOf]; omega
             · by_cases hn0 : n = 0
               · skip
                 by_cases h6 : k = 6
                 · cases dt
                   · skip
                     have t1 : (kv == (f : Int)) = false := by rw [beq_eq_false_iff_ne]; omega
                     have t3 : decide ((0 : Int) < kv) = true := decide_eq_true (by omega)
                     have t4 : (nv == 0) = true := by have := HNV.out; rw [beq_iff_eq]; omega
                     have t6 : (kv == 6) = true := by rw [beq_iff_eq]; omega
                     have HYSo := HYS.out
                     have hnf : ¬ (k = f ∧ 0 < n) := hA1
                     have HJ : Hid (Sp6 b f n (k + 1) (X ++ (⟨#[58]⟩ : ByteArray) ++ bs (grpT up x zp))) := Lib.hid (HS.out.colon hb8 hlt (by omega) (by have := HE.out; omega) hnf HX.out)
                     have HSZ := Lib.hid (HJ.out.size hb8)
                     generalize bs (grpT up x zp) = Y at *
                     have a1 : ¬ (9223372036854775807 < X.size + (⟨#[58]⟩ : ByteArray).size) := by have : (⟨#[58]⟩ : ByteArray).size = 1 := rfl; omega
                     have a2 : ¬ (9223372036854775807 < (X ++ (⟨#[58]⟩ : ByteArray)).size + Y.size) := by rw [ByteArray.size_append]; have : (⟨#[58]⟩ : ByteArray).size = 1 := rfl; omega
                     clear hkv hnf HYSo hA1 hkf hk0 hn0 h6
                     go_wp2_with fail
                     go_quiet ((first | (go_at_call 12; exact quiet_same6 (m3 _)) | (go_at_call 14; exact quiet_same6 (g1 _))))
                     go_wp2_with fail
                     go_roundw
                     case rel => exact ⟨k + 1, _, by omega, by have := HKV.out; first | (congr 1; omega) | go_num, rfl, HSZ.out, HJ, hA.drewN _, hb.trans (drewN_bel6 _ _ _)⟩
                     case measure => have := HKV.out; simp [intOf]; omega
                   · skip
                     have t1 : (kv == (f : Int)) = false := by rw [beq_eq_false_iff_ne]; omega
                     have t3 : decide ((0 : Int) < kv) = true := decide_eq_true (by omega)
                     have t4 : (nv == 0) = true := by have := HNV.out; rw [beq_iff_eq]; omega
                     have t6 : (kv == 6) = true := by rw [beq_iff_eq]; omega
                     obtain ⟨x6, hx6⟩ : ∃ x, x = b.getD 6 0 := ⟨_, rfl⟩
                     obtain ⟨x7, hx7⟩ : ∃ x, x = b.getD 7 0 := ⟨_, rfl⟩
                     have l6 : x6 < 65536 := by rw [hx6]; exact HBD.out 6
                     have l7 : x7 < 65536 := by rw [hx7]; exact HBD.out 7
                     have k6 : wr.cell? ⟨b3, 6, none⟩ = some (.int .u16 (x6 : Int)) := by rw [hx6]; exact hA.cell (by omega)
                     have k7 : wr.cell? ⟨b3, 7, none⟩ = some (.int .u16 (x7 : Int)) := by rw [hx7]; exact hA.cell (by omega)
                     obtain ⟨y6, hy6⟩ : ∃ y, y = x6 * 65536 := ⟨_, rfl⟩
                     have q6 : (x6 : Int) * 65536 = (y6 : Int) := by omega
                     have ly6 : y6 < 4294967296 := by omega
                     obtain ⟨v, hv⟩ : ∃ v, v = y6 + x7 := ⟨_, rfl⟩
                     have qv : (y6 : Int) + (x7 : Int) = (v : Int) := by omega
                     have lv : v < 4294967296 := by omega
                     have hle := HDT.out rfl
                     have HV6 : Hid (b.getD 6 0 = v / 65536) := by rw [← hx6]; exact Lib.hid (by omega)
                     have HV7 : Hid (b.getD 7 0 = v % 65536) := by rw [← hx7]; exact Lib.hid (by omega)
                     have HS6 : Hid (Sp6 b f n 6 X) := by have h := HS.out; rw [h6] at h; exact Lib.hid h
                     have HPD : Hid (parse6 (ls (X ++ (⟨#[58]⟩ : ByteArray) ++ bs (fmtI v))) = some b) := Lib.hid (HS6.out.dotted hb8 (by have := HE.out; omega) HZ0.out lv HV6.out HV7.out (by rw [if_pos (by have := HE.out; omega)]))
                     have f1 := fun W => refFormat_any (v : Int) (by omega) (by omega) W
                     rw [show ((v : Int)).toNat = v from rfl] at f1
                     have hfl := fmtI_len v lv
                     generalize bs (fmtI v) = Y at *
                     have a1 : ¬ (9223372036854775807 < X.size + (⟨#[58]⟩ : ByteArray).size) := by have : (⟨#[58]⟩ : ByteArray).size = 1 := rfl; omega
                     have a2 : ¬ (9223372036854775807 < (X ++ (⟨#[58]⟩ : ByteArray)).size + Y.size) := by rw [ByteArray.size_append]; have : (⟨#[58]⟩ : ByteArray).size = 1 := rfl; omega
                     have HSZ : Hid ((X ++ (⟨#[58]⟩ : ByteArray) ++ Y).size ≤ 200) := Lib.hid (by rw [ByteArray.size_append, ByteArray.size_append]; have : (⟨#[58]⟩ : ByteArray).size = 1 := rfl; omega)
                     clear hx6 hx7 hy6 hv hcell g1 hkv hA1 hkf hk0 hn0 h6 hle
                     go_wp2_with fail
                     refine (f1 _).mono ?_
                     rintro r w3 ⟨rfl, hb3'⟩
                     go_wp2_with fail
                     go_meet
                     exact ⟨_, rfl, HSZ.out, HPD, hA.below hb3' hA.lt, hb.trans (hb3'.mono hb.size)⟩
                 · skip
                   have t1 : (kv == (f : Int)) = false := by rw [beq_eq_false_iff_ne]; omega
                   have t3 : decide ((0 : Int) < kv) = true := decide_eq_true (by omega)
                   have t4 : (nv == 0) = true := by have := HNV.out; rw [beq_iff_eq]; omega
                   have t6 : (kv == 6) = false := by rw [beq_eq_false_iff_ne]; omega
                   have HYSo := HYS.out
                   have hnf : ¬ (k = f ∧ 0 < n) := hA1
                   have HJ : Hid (Sp6 b f n (k + 1) (X ++ (⟨#[58]⟩ : ByteArray) ++ bs (grpT up x zp))) := Lib.hid (HS.out.colon hb8 hlt (by omega) (by have := HE.out; omega) hnf HX.out)
                   have HSZ := Lib.hid (HJ.out.size hb8)
                   generalize bs (grpT up x zp) = Y at *
                   have a1 : ¬ (9223372036854775807 < X.size + (⟨#[58]⟩ : ByteArray).size) := by have : (⟨#[58]⟩ : ByteArray).size = 1 := rfl; omega
                   have a2 : ¬ (9223372036854775807 < (X ++ (⟨#[58]⟩ : ByteArray)).size + Y.size) := by rw [ByteArray.size_append]; have : (⟨#[58]⟩ : ByteArray).size = 1 := rfl; omega
                   clear hkv hnf HYSo hA1 hkf hk0 hn0 h6
                   go_wp2_with fail
                   go_quiet ((first | (go_at_call 12; exact quiet_same6 (m3 _)) | (go_at_call 14; exact quiet_same6 (g1 _))))
                   go_wp2_with fail
                   go_roundw
                   case rel => exact ⟨k + 1, _, by omega, by have := HKV.out; first | (congr 1; omega) | go_num, rfl, HSZ.out, HJ, hA.drewN _, hb.trans (drewN_bel6 _ _ _)⟩
                   case measure => have := HKV.out; simp [intOf]; omega
               · by_cases hke : k = e
                 · skip
                   by_cases h6 : k = 6
                   · cases dt
                     · skip
                       have t1 : (kv == (f : Int)) = false := by rw [beq_eq_false_iff_ne]; omega
                       have t3 : decide ((0 : Int) < kv) = true := decide_eq_true (by omega)
                       have t4 : (nv == 0) = false := by have := HNV.out; rw [beq_eq_false_iff_ne]; omega
                       have t5 : (kv != (e : Int)) = false := by rw [bne_eq_false_iff_eq]; omega
                       have t6 : (kv == 6) = true := by rw [beq_iff_eq]; omega
                       have HYSo := HYS.out
                       have hnf : ¬ (k = f ∧ 0 < n) := hA1
                       have HJ : Hid (Sp6 b f n (k + 1) (X ++ bs (grpT up x zp))) := Lib.hid (HS.out.bare hb8 hlt (by have := HE.out; omega) hnf HX.out)
                       have HSZ := Lib.hid (HJ.out.size hb8)
                       generalize bs (grpT up x zp) = Y at *
                       have a3 : ¬ (9223372036854775807 < X.size + Y.size) := by omega
                       clear hkv hnf HYSo hA1 hkf hk0 hn0 hke h6
                       go_wp2_with fail
                       go_quiet ((first | (go_at_call 12; exact quiet_same6 (m3 _)) | (go_at_call 14; exact quiet_same6 (g1 _))))
                       go_wp2_with fail
                       go_roundw
                       case rel => exact ⟨k + 1, _, by omega, by have := HKV.out; first | (congr 1; omega) | go_num, rfl, HSZ.out, HJ, hA.drewN _, hb.trans (drewN_bel6 _ _ _)⟩
                       case measure => have := HKV.out; simp [intOf]; omega
                     · skip
                       have t1 : (kv == (f : Int)) = false := by rw [beq_eq_false_iff_ne]; omega
                       have t3 : decide ((0 : Int) < kv) = true := decide_eq_true (by omega)
                       have t4 : (nv == 0) = false := by have := HNV.out; rw [beq_eq_false_iff_ne]; omega
                       have t5 : (kv != (e : Int)) = false := by rw [bne_eq_false_iff_eq]; omega
                       have t6 : (kv == 6) = true := by rw [beq_iff_eq]; omega
                       obtain ⟨x6, hx6⟩ : ∃ x, x = b.getD 6 0 := ⟨_, rfl⟩
                       obtain ⟨x7, hx7⟩ : ∃ x, x = b.getD 7 0 := ⟨_, rfl⟩
                       have l6 : x6 < 65536 := by rw [hx6]; exact HBD.out 6
                       have l7 : x7 < 65536 := by rw [hx7]; exact HBD.out 7
                       have k6 : wr.cell? ⟨b3, 6, none⟩ = some (.int .u16 (x6 : Int)) := by rw [hx6]; exact hA.cell (by omega)
                       have k7 : wr.cell? ⟨b3, 7, none⟩ = some (.int .u16 (x7 : Int)) := by rw [hx7]; exact hA.cell (by omega)
                       obtain ⟨y6, hy6⟩ : ∃ y, y = x6 * 65536 := ⟨_, rfl⟩
                       have q6 : (x6 : Int) * 65536 = (y6 : Int) := by omega
                       have ly6 : y6 < 4294967296 := by omega
                       obtain ⟨v, hv⟩ : ∃ v, v = y6 + x7 := ⟨_, rfl⟩
                       have qv : (y6 : Int) + (x7 : Int) = (v : Int) := by omega
                       have lv : v < 4294967296 := by omega
                       have hle := HDT.out rfl
                       have HV6 : Hid (b.getD 6 0 = v / 65536) := by rw [← hx6]; exact Lib.hid (by omega)
                       have HV7 : Hid (b.getD 7 0 = v % 65536) := by rw [← hx7]; exact Lib.hid (by omega)
                       have HS6 : Hid (Sp6 b f n 6 X) := by have h := HS.out; rw [h6] at h; exact Lib.hid h
                       have HPD : Hid (parse6 (ls (X ++ bs (fmtI v))) = some b) := Lib.hid (HS6.out.dotted hb8 (by have := HE.out; omega) HZ0.out lv HV6.out HV7.out (by rw [if_neg (by have := HE.out; omega)]))
                       have f1 := fun W => refFormat_any (v : Int) (by omega) (by omega) W
                       rw [show ((v : Int)).toNat = v from rfl] at f1
                       have hfl := fmtI_len v lv
                       generalize bs (fmtI v) = Y at *
                       have a3 : ¬ (9223372036854775807 < X.size + Y.size) := by omega
                       have HSZ : Hid ((X ++ Y).size ≤ 200) := Lib.hid (by rw [ByteArray.size_append]; omega)
                       clear hx6 hx7 hy6 hv hcell g1 hkv hA1 hkf hk0 hn0 h6 hle hke
                       go_wp2_with fail
                       refine (f1 _).mono ?_
                       rintro r w3 ⟨rfl, hb3'⟩
                       go_wp2_with fail
                       go_meet
                       exact ⟨_, rfl, HSZ.out, HPD, hA.below hb3' hA.lt, hb.trans (hb3'.mono hb.size)⟩
                   · skip
                     have t1 : (kv == (f : Int)) = false := by rw [beq_eq_false_iff_ne]; omega
                     have t3 : decide ((0 : Int) < kv) = true := decide_eq_true (by omega)
                     have t4 : (nv == 0) = false := by have := HNV.out; rw [beq_eq_false_iff_ne]; omega
                     have t5 : (kv != (e : Int)) = false := by rw [bne_eq_false_iff_eq]; omega
                     have t6 : (kv == 6) = false := by rw [beq_eq_false_iff_ne]; omega
                     have HYSo := HYS.out
                     have hnf : ¬ (k = f ∧ 0 < n) := hA1
                     have HJ : Hid (Sp6 b f n (k + 1) (X ++ bs (grpT up x zp))) := Lib.hid (HS.out.bare hb8 hlt (by have := HE.out; omega) hnf HX.out)
                     have HSZ := Lib.hid (HJ.out.size hb8)
                     generalize bs (grpT up x zp) = Y at *
                     have a3 : ¬ (9223372036854775807 < X.size + Y.size) := by omega
                     clear hkv hnf HYSo hA1 hkf hk0 hn0 hke h6
                     go_wp2_with fail
                     go_quiet ((first | (go_at_call 12; exact quiet_same6 (m3 _)) | (go_at_call 14; exact quiet_same6 (g1 _))))
                     go_wp2_with fail
                     go_roundw
                     case rel => exact ⟨k + 1, _, by omega, by have := HKV.out; first | (congr 1; omega) | go_num, rfl, HSZ.out, HJ, hA.drewN _, hb.trans (drewN_bel6 _ _ _)⟩
                     case measure => have := HKV.out; simp [intOf]; omega
                 · skip
                   by_cases h6 : k = 6
                   · cases dt
                     · skip
                       have t1 : (kv == (f : Int)) = false := by rw [beq_eq_false_iff_ne]; omega
                       have t3 : decide ((0 : Int) < kv) = true := decide_eq_true (by omega)
                       have t4 : (nv == 0) = false := by have := HNV.out; rw [beq_eq_false_iff_ne]; omega
                       have t5 : (kv != (e : Int)) = true := by rw [bne_iff_ne]; omega
                       have t6 : (kv == 6) = true := by rw [beq_iff_eq]; omega
                       have HYSo := HYS.out
                       have hnf : ¬ (k = f ∧ 0 < n) := hA1
                       have HJ : Hid (Sp6 b f n (k + 1) (X ++ (⟨#[58]⟩ : ByteArray) ++ bs (grpT up x zp))) := Lib.hid (HS.out.colon hb8 hlt (by omega) (by have := HE.out; omega) hnf HX.out)
                       have HSZ := Lib.hid (HJ.out.size hb8)
                       generalize bs (grpT up x zp) = Y at *
                       have a1 : ¬ (9223372036854775807 < X.size + (⟨#[58]⟩ : ByteArray).size) := by have : (⟨#[58]⟩ : ByteArray).size = 1 := rfl; omega
                       have a2 : ¬ (9223372036854775807 < (X ++ (⟨#[58]⟩ : ByteArray)).size + Y.size) := by rw [ByteArray.size_append]; have : (⟨#[58]⟩ : ByteArray).size = 1 := rfl; omega
                       clear hkv hnf HYSo hA1 hkf hk0 hn0 hke h6
                       go_wp2_with fail
                       go_quiet ((first | (go_at_call 12; exact quiet_same6 (m3 _)) | (go_at_call 14; exact quiet_same6 (g1 _))))
                       go_wp2_with fail
                       go_roundw
                       case rel => exact ⟨k + 1, _, by omega, by have := HKV.out; first | (congr 1; omega) | go_num, rfl, HSZ.out, HJ, hA.drewN _, hb.trans (drewN_bel6 _ _ _)⟩
                       case measure => have := HKV.out; simp [intOf]; omega
                     · skip
                       have t1 : (kv == (f : Int)) = false := by rw [beq_eq_false_iff_ne]; omega
                       have t3 : decide ((0 : Int) < kv) = true := decide_eq_true (by omega)
                       have t4 : (nv == 0) = false := by have := HNV.out; rw [beq_eq_false_iff_ne]; omega
                       have t5 : (kv != (e : Int)) = true := by rw [bne_iff_ne]; omega
                       have t6 : (kv == 6) = true := by rw [beq_iff_eq]; omega
                       obtain ⟨x6, hx6⟩ : ∃ x, x = b.getD 6 0 := ⟨_, rfl⟩
                       obtain ⟨x7, hx7⟩ : ∃ x, x = b.getD 7 0 := ⟨_, rfl⟩
                       have l6 : x6 < 65536 := by rw [hx6]; exact HBD.out 6
                       have l7 : x7 < 65536 := by rw [hx7]; exact HBD.out 7
                       have k6 : wr.cell? ⟨b3, 6, none⟩ = some (.int .u16 (x6 : Int)) := by rw [hx6]; exact hA.cell (by omega)
                       have k7 : wr.cell? ⟨b3, 7, none⟩ = some (.int .u16 (x7 : Int)) := by rw [hx7]; exact hA.cell (by omega)
                       obtain ⟨y6, hy6⟩ : ∃ y, y = x6 * 65536 := ⟨_, rfl⟩
                       have q6 : (x6 : Int) * 65536 = (y6 : Int) := by omega
                       have ly6 : y6 < 4294967296 := by omega
                       obtain ⟨v, hv⟩ : ∃ v, v = y6 + x7 := ⟨_, rfl⟩
                       have qv : (y6 : Int) + (x7 : Int) = (v : Int) := by omega
                       have lv : v < 4294967296 := by omega
                       have hle := HDT.out rfl
                       have HV6 : Hid (b.getD 6 0 = v / 65536) := by rw [← hx6]; exact Lib.hid (by omega)
                       have HV7 : Hid (b.getD 7 0 = v % 65536) := by rw [← hx7]; exact Lib.hid (by omega)
                       have HS6 : Hid (Sp6 b f n 6 X) := by have h := HS.out; rw [h6] at h; exact Lib.hid h
                       have HPD : Hid (parse6 (ls (X ++ (⟨#[58]⟩ : ByteArray) ++ bs (fmtI v))) = some b) := Lib.hid (HS6.out.dotted hb8 (by have := HE.out; omega) HZ0.out lv HV6.out HV7.out (by rw [if_pos (by have := HE.out; omega)]))
                       have f1 := fun W => refFormat_any (v : Int) (by omega) (by omega) W
                       rw [show ((v : Int)).toNat = v from rfl] at f1
                       have hfl := fmtI_len v lv
                       generalize bs (fmtI v) = Y at *
                       have a1 : ¬ (9223372036854775807 < X.size + (⟨#[58]⟩ : ByteArray).size) := by have : (⟨#[58]⟩ : ByteArray).size = 1 := rfl; omega
                       have a2 : ¬ (9223372036854775807 < (X ++ (⟨#[58]⟩ : ByteArray)).size + Y.size) := by rw [ByteArray.size_append]; have : (⟨#[58]⟩ : ByteArray).size = 1 := rfl; omega
                       have HSZ : Hid ((X ++ (⟨#[58]⟩ : ByteArray) ++ Y).size ≤ 200) := Lib.hid (by rw [ByteArray.size_append, ByteArray.size_append]; have : (⟨#[58]⟩ : ByteArray).size = 1 := rfl; omega)
                       clear hx6 hx7 hy6 hv hcell g1 hkv hA1 hkf hk0 hn0 h6 hle hke
                       go_wp2_with fail
                       refine (f1 _).mono ?_
                       rintro r w3 ⟨rfl, hb3'⟩
                       go_wp2_with fail
                       go_meet
                       exact ⟨_, rfl, HSZ.out, HPD, hA.below hb3' hA.lt, hb.trans (hb3'.mono hb.size)⟩
                   · skip
                     have t1 : (kv == (f : Int)) = false := by rw [beq_eq_false_iff_ne]; omega
                     have t3 : decide ((0 : Int) < kv) = true := decide_eq_true (by omega)
                     have t4 : (nv == 0) = false := by have := HNV.out; rw [beq_eq_false_iff_ne]; omega
                     have t5 : (kv != (e : Int)) = true := by rw [bne_iff_ne]; omega
                     have t6 : (kv == 6) = false := by rw [beq_eq_false_iff_ne]; omega
                     have HYSo := HYS.out
                     have hnf : ¬ (k = f ∧ 0 < n) := hA1
                     have HJ : Hid (Sp6 b f n (k + 1) (X ++ (⟨#[58]⟩ : ByteArray) ++ bs (grpT up x zp))) := Lib.hid (HS.out.colon hb8 hlt (by omega) (by have := HE.out; omega) hnf HX.out)
                     have HSZ := Lib.hid (HJ.out.size hb8)
                     generalize bs (grpT up x zp) = Y at *
                     have a1 : ¬ (9223372036854775807 < X.size + (⟨#[58]⟩ : ByteArray).size) := by have : (⟨#[58]⟩ : ByteArray).size = 1 := rfl; omega
                     have a2 : ¬ (9223372036854775807 < (X ++ (⟨#[58]⟩ : ByteArray)).size + Y.size) := by rw [ByteArray.size_append]; have : (⟨#[58]⟩ : ByteArray).size = 1 := rfl; omega
                     clear hkv hnf HYSo hA1 hkf hk0 hn0 hke h6
                     go_wp2_with fail
                     go_quiet ((first | (go_at_call 12; exact quiet_same6 (m3 _)) | (go_at_call 14; exact quiet_same6 (g1 _))))
                     go_wp2_with fail
                     go_roundw
                     case rel => exact ⟨k + 1, _, by omega, by have := HKV.out; first | (congr 1; omega) | go_num, rfl, HSZ.out, HJ, hA.drewN _, hb.trans (drewN_bel6 _ _ _)⟩
                     case measure => have := HKV.out; simp [intOf]; omega
       · obtain rfl : k = 8 := by omega
         have HPX : Hid (parse6 (ls X) = some b) := Lib.hid (HS.out.whole hb8 hf8 (by have := HE.out; omega) HZ0.out)
         go_wp2_with fail
         go_meet
         exact ⟨X, rfl, by omega, HPX, hA, hb⟩
   case rest =>
   obtain ⟨Y, rfl, hYs, HPY, hA, hb⟩ := hcut
   obtain ⟨V2, hV2⟩ : ∃ V2, V2 = wc := ⟨_, rfl⟩
   subst hV2
   have c2 := fun W hh => hP Y W (by omega) hh
   rw [HPY.out, show arr6 (some b) = b from rfl, show (some b).isSome = true from rfl] at c2
   have hEq := fun W => eq_av b b hb8 hb8 W
   rw [show decide (b = b) = true by simp] at hEq
   have hlA := hA.lt
   clear hP hF hup HDT HNV HE HN HE0 hfe0 hfn hle4 hle5 m3 hYs HPY
   go_wp2_with fail
   refine (c2 _ (pow6_below hpw hb)).mono ?_
   rintro r w4 ⟨rfl, hb4⟩
   have hA4 := hA.below hb4 hA.lt
   have hlA4 := hA4.lt
   replace hb4 := hb.trans (hb4.mono hb.size)
   clear hA hb c2 hlA
   go_wp2_with (first
     | (refine wpList_alloc_arr _ rfl 13 rfl _ rfl _ zeroA8 ?_
        intro W6 b6 hg6 hl6 hR6 hG6
        have hb6 := below_row0 hb4 hG6 (Nat.le_refl _)
        have hA6 := hA4.grown0 hG6
        clear hA4 hb4 hG6)
     | (refine wpList_store_arr _ rfl rfl _ _ _ rfl b6 (by exact rfl) (av b) (by exact rfl) _ _ hR6 (sizeA b hb8) (by rw [av_size, av_size, hb8]; rfl) (av_one b) ?_
        intro W7 hR8 hG8
        have hb7 := below_row hb6 hG8 (Nat.le_refl _) (by have := hb6.size; omega)
        have R2 := hA6.grown hG8 (by omega)
        have R6 := rowA_of hR8
        clear hR6 hG8 hb6 hA6 hR8)
     | (refine wpList_wanted (by exact rfl) ?_; refine wpList_load_arr _ rfl _ _ rfl b6 (by exact rfl) _ (av b) (rowA_get R6) 8 _ tyA8 (sizeA b hb8) ?_)
     | (refine wpList_wanted (by exact rfl) ?_; refine wpList_load_arr _ rfl _ _ rfl b3 (by exact rfl) _ (av b) (rowA_get R2) 8 _ tyA8 (sizeA b hb8) ?_)
     | (go_at_call 7; refine (c9 _ (pow6_below hpw hb7)).mono ?_; rintro r w8 ⟨rfl, hb8'⟩))
   go_ret
   exact ⟨rfl, hb7.trans (hb8'.mono hb7.size)⟩

end Go.Proofs.YthihfhmclmmadaaDoor
