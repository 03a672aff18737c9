/-
  Parts of slices of bytes, numbers of four bytes in them; the reference's DecodeFixed of a part.
-/
import Derived.Test.YtdahnkampjkelaaFrP
import Derived.Test.YtdahnkampjkelaaCrcD
import Derived.Test.YtdahnkampjkelaaMkR
import Derived.Laws.CopyOwn
namespace Go.Proofs.Ytdahnkampjkelaa
open Go.RowKit

theorem Has.tail8 {w : World} {B n b off : Nat} {l : List UInt8} (h : Has w B (some ⟨b, off, none⟩) n (l.map bv)) (s : Nat) (hs : s ≤ n) : Has w B (some ⟨b, off + s, none⟩) (n - s) ((l.drop s).map bv) := by
  have h1 := h.part s (n - s) (by omega)
  have hl : l.length = n := by simpa using h.1
  rwa [← List.map_drop, ← List.map_take, List.take_of_length_le (by simp; omega)] at h1
theorem Has.sub8 {w : World} {B n b off : Nat} {l : List UInt8} (h : Has w B (some ⟨b, off, none⟩) n (l.map bv)) (s k : Nat) (hs : s + k ≤ n) : Has w B (some ⟨b, off + s, none⟩) k (((l.drop s).take k).map bv) := by
  have h1 := h.part s k hs
  rwa [← List.map_drop, ← List.map_take] at h1
theorem Has.head8 {w : World} {B n : Nat} {A : Option Addr} {l : List UInt8} (h : Has w B A n (l.map bv)) (k : Nat) (hs : k ≤ n) : Has w B A k ((l.take k).map bv) := by
  have h1 := h.take k hs
  rwa [← List.map_take] at h1
theorem cell_bt {w : World} {B n b off : Nat} {l : List UInt8} (h : Has w B (some ⟨b, off, none⟩) n (l.map bv)) (k : Nat) (hk : k < n) : w.cell? ⟨b, off + k, none⟩ = some (.int .u8 ((l.getD k 0).toNat : Int)) := by
  have hl : l.length = n := by simpa using h.1
  obtain ⟨b', off', e, _, hc⟩ := h.at_ hk
  injection e with e
  injection e with e1 e2 _
  subst e1 e2
  rw [hc, List.getElem_map, bv_eq, List.getD_eq_getElem?_getD, List.getElem?_eq_getElem (by omega), Option.getD_some]
theorem or_32 (a b : Int) (k : Nat) (ha0 : 0 ≤ a) (ha : a.toNat < 2 ^ k) (ha2 : a < 4294967296) (hb0 : 0 ≤ b) (hb : b * 2 ^ k < 4294967296) : bits .or .u32 a (b * 2 ^ k) = a + b * 2 ^ k := by
  obtain ⟨m, rfl⟩ := Int.eq_ofNat_of_zero_le ha0
  obtain ⟨n, rfl⟩ := Int.eq_ofNat_of_zero_le hb0
  have hp : (n : Int) * 2 ^ k = ((2 ^ k * n : Nat) : Int) := by push_cast; exact Int.mul_comm _ _
  rw [hp] at hb ⊢
  have hm : m < 2 ^ k := by simpa using ha
  rw [u32_or_nat _ _ (by omega) (by omega), Nat.or_comm, ← Nat.two_pow_add_eq_or_of_lt hm]
  push_cast
  omega
theorem wordB_nv (l : List UInt8) : nv (wordB l) = ((l.getD 0 0).toNat : Int) + ((l.getD 1 0).toNat : Int) * 256 + ((l.getD 2 0).toNat : Int) * 65536 + ((l.getD 3 0).toNat : Int) * 16777216 := fixedW_nv _ _ _ _

theorem fixedB_bv (s : W32) : (fixedB s).map bv = [.int .u8 (nv s % 256), .int .u8 (nv s / 256 % 256), .int .u8 (nv s / 65536 % 256), .int .u8 (nv s / 16777216)] := by
  have hge := nv_ge s
  have hlt := nv_lt s
  have e1 := byte_of s 256
  have e2 := byte_of s 65536
  have e3 : (((UInt8.ofNat (s.toNat / 16777216)).toNat : Nat) : Int) = nv s / 16777216 := by rw [byte_of s 16777216]; omega
  simp only [fixedB, List.map_cons, List.map_nil, bv_eq, byte_of0, e1, e2, e3]
  rfl

theorem take4 (l : List UInt8) (h : 4 ≤ l.length) : l.take 4 = [l.getD 0 0, l.getD 1 0, l.getD 2 0, l.getD 3 0] := by
  match l, h with
  | a :: b :: c :: d :: r, _ => rfl
theorem refWord {w : World} {B len b off : Nat} {l : List UInt8} (hA : Has w B (some ⟨b, off, none⟩) len (l.map bv)) (s cap : Nat) (hs : s + 4 ≤ len) :
    Calls Try.prog 25 #[.slice (some ⟨b, off + s, none⟩) 4 cap] w fun e w' => e = .returned (.tuple #[.int .u32 (nv (wordB (l.drop s))), .int .i64 0]) ∧ Below w.heap.size w w' := by
  have hl : l.length = len := by simpa using hA.1
  have h := hA.sub8 s 4 hs
  rw [take4 (l.drop s) (by simp; omega)] at h
  exact decodeFixed_any _ cap B _ _ _ _ w h

theorem src8 {w : World} {B n : Nat} {A : Option Addr} {xs : List Value} (h : Has w B A n xs) (h0 : 0 < xs.length) : ∃ ad, A = some ad ∧ ∀ j v, xs[j]? = some v → w.cell? (ad.add j) = some v := by
  obtain ⟨b, off, e, hb, hc⟩ := h.2 (by rw [← h.1]; exact h0)
  refine ⟨_, e, fun j v hj => ?_⟩
  have hjl := (List.getElem?_eq_some_iff.1 hj).1
  have hadd : (⟨b, off, none⟩ : Addr).add j = ⟨b, off + j, none⟩ := by unfold Addr.add; split <;> simp_all
  rw [hadd, hc j hjl, ← hj, List.getElem?_eq_getElem hjl]
theorem splice8 (z l : List Value) (h : z.length = l.length) : splice z 0 l = l := by
  simp [splice, List.drop_of_length_le (by omega : z.length ≤ 0 + l.length), ← h]
theorem has_row8 {w : World} {g n : Nat} {t : TypeId} {fr : Nat × Nat} {xs : List Value} (h : w.heap[g]? = some (.cells xs.toArray t fr)) (hn : xs.length = n) : Has w w.heap.size (some ⟨g, 0, none⟩) n xs :=
  ⟨hn, fun _ => ⟨g, 0, rfl, (Array.getElem?_eq_some_iff.1 h).1, fun j hj => by
    rw [cell_of_row _ g (0 + j) xs.toArray t fr h]
    simp⟩⟩
theorem sizeU8 : (Try.prog.info? 5).map (·.size) = some 1 := by kernel_rfl

end Go.Proofs.Ytdahnkampjkelaa
