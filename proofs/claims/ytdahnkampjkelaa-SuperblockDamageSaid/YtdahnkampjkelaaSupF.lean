/-
  Contracts of the program's putNumber and Encode.
-/
import Derived.Test.YtdahnkampjkelaaSupE
import Derived.Lib.LazyBuf
import Derived.StillTailTactics
namespace Go.Proofs.Ytdahnkampjkelaa
open Go.RowKit

/-- Bytes laid over a list. -/
def setB (l : List UInt8) (s : Nat) : List UInt8 → List UInt8
  | [] => l
  | y :: r => setB (l.set s y) (s + 1) r
/-- The first bytes of a number laid over a list. -/
def putL (l : List UInt8) (s v : Nat) : Nat → List UInt8
  | 0 => l
  | k + 1 => (putL l s v k).set (s + k) (UInt8.ofNat (v / 256 ^ k))
theorem ofNat_mod (a b : Nat) (h : a % 256 = b % 256) : UInt8.ofNat a = UInt8.ofNat b := by
  apply UInt8.toNat.inj
  rw [UInt8.toNat_ofNat', UInt8.toNat_ofNat']
  simpa using h
theorem putL_four (l : List UInt8) (s v : Nat) : putL l s v 4 = setB l s (fixedB (BitVec.ofNat 32 v)) := by
  have e : (BitVec.ofNat 32 v).toNat = v % 4294967296 := by rw [BitVec.toNat_ofNat]
  simp only [fixedB, e, setB, putL, Nat.add_zero]
  rw [ofNat_mod (v / 256 ^ 0) (v % 4294967296) (by omega), ofNat_mod (v / 256 ^ 1) (v % 4294967296 / 256) (by omega), ofNat_mod (v / 256 ^ 2) (v % 4294967296 / 65536) (by omega), ofNat_mod (v / 256 ^ 3) (v % 4294967296 / 16777216) (by omega)]
theorem putL_eight (l : List UInt8) (s v : Nat) : putL l s v 8 = setB l s (fixedB (BitVec.ofNat 32 v) ++ fixedB (BitVec.ofNat 32 (v / 4294967296))) := by
  have e : (BitVec.ofNat 32 v).toNat = v % 4294967296 := by rw [BitVec.toNat_ofNat]
  have e2 : (BitVec.ofNat 32 (v / 4294967296)).toNat = v / 4294967296 % 4294967296 := by rw [BitVec.toNat_ofNat]
  simp only [fixedB, e, e2, setB, putL, Nat.add_zero, List.cons_append, List.nil_append]
  rw [ofNat_mod (v / 256 ^ 0) (v % 4294967296) (by omega), ofNat_mod (v / 256 ^ 1) (v % 4294967296 / 256) (by omega), ofNat_mod (v / 256 ^ 2) (v % 4294967296 / 65536) (by omega), ofNat_mod (v / 256 ^ 3) (v % 4294967296 / 16777216) (by omega),
    ofNat_mod (v / 256 ^ 4) (v / 4294967296 % 4294967296) (by omega), ofNat_mod (v / 256 ^ 5) (v / 4294967296 % 4294967296 / 256) (by omega), ofNat_mod (v / 256 ^ 6) (v / 4294967296 % 4294967296 / 65536) (by omega), ofNat_mod (v / 256 ^ 7) (v / 4294967296 % 4294967296 / 16777216) (by omega)]
theorem setB_length : ∀ (ys : List UInt8) (l : List UInt8) (s : Nat), (setB l s ys).length = l.length
  | [], _, _ => rfl
  | y :: r, l, s => by rw [setB, setB_length r]; simp

theorem OwnE.setCells {g cap n : Nat} : ∀ (ys : List UInt8) (o : Nat) (w : World) (l : List UInt8), OwnE w g cap n l → o + ys.length ≤ n → OwnE (w.setCells g o (ys.map bv)) g cap n (setB l o ys)
  | [], _, _, _, h, _ => h
  | y :: r, o, w, l, h, hn => by
    have hn' : o + (r.length + 1) ≤ n := by simpa using hn
    have h1 := h.set_cell (j := o) (by omega) y _ rfl
    exact OwnE.setCells r (o + 1) _ _ h1 (by omega)

/-- copy of a string into bytes of one's own. -/
theorem wpList_copy_text {w : World} {ops : Array Oper} {rest : List Oper} {o : Oper} {a : Act} {Q : Exit → Act → World → Prop} (hgd : o.guard = none) (d x : Operand) (sT : TypeId)
    (ho : o.op = .call { callee := .builtin .copy, args := #[d, x], argTypes := #[26, sT] })
    (b dLen dCap : Nat) (hd : a.eval d = .slice (some ⟨b, 0, none⟩) dLen dCap) (t : ByteArray) (hx : a.eval x = .string t) (hle : t.size ≤ dLen) (cap : Nat) (l : List UInt8) (hO : OwnE w b cap dLen l)
    (B : Nat) (w0 : World) (hb : Below B w0 w) (hB : B ≤ b)
    (h : ∀ w', OwnE w' b cap dLen (setB l 0 (ls t)) → Below B w0 w' → wpList Try.prog ops Q rest (a.put o.dst (goInt t.size)) w') : wpList Try.prog ops Q (o :: rest) a w := by
  refine wpList_plain hgd fun K hK => ?_
  have hz : ∀ w, (Go.sizeOf 5).run Try.prog w = .ok 1 w := by
    obtain ⟨i, hi, _, hz1, _⟩ := info_parts infoU8
    intro w
    simp [Go.sizeOf, typeInfo, hi, hz1]
  have hrun := run_copy_string (P := Try.prog) w 26 sT o.type 5 b 0 dLen dCap t tyBs hz hle
    (fun j hj => by rw [Nat.zero_add, hO.cell (by omega)]; rfl) (fun j _ => by rw [Nat.zero_add]; exact hO.frozen j)
  have hmap : (t.data.toList.map fun x => Value.int .u8 (x.toNat : Int)) = (ls t).map bv := rfl
  rw [hmap] at hrun
  have h2 := h _ (hO.setCells (ls t) 0 _ _ (by rw [ls_length]; omega)) (below_setCells hB _ _ _ hb)
  unfold Oper.wp
  simp [execOp, ho, resolve, invoke, builtin, hd, hx, hrun, Result.andThen]
  exact hK _ _ h2

/-- 'x >> k' of 64 bits, k a variable. -/
theorem wpList_shr64 {P : Program} (w : World) {ops : Array Oper} {rest : List Oper} {o : Oper} {a : Act} {Q : Exit → Act → World → Prop} (hg : o.guard = none) (t u : TypeId) (x y : Operand) (hop : o.op = .binOp .shr t x y u) (hu : P.underlying t = some (.int .u64)) (n : Int) (k : Nat) (hk : k ≤ 64) (hx : a.eval x = .int .u64 n) (hy : a.eval y = .int .i64 (k : Int))
    (r : Int) (hr : n / 2 ^ k = r) (h : wpList P ops Q rest (a.put o.dst (.int .u64 r)) w) : wpList P ops Q (o :: rest) a w := by
  refine wpList_plain hg fun K hK => ?_
  subst hr
  have e : Int.fdiv n (2 ^ min ((k : Int)).toNat IntKind.u64.bits) = n / 2 ^ k := by
    have : min ((k : Int).toNat) IntKind.u64.bits = k := by simp [IntKind.bits]; omega
    rw [this, Int.fdiv_eq_ediv_of_nonneg _ (Int.pow_nonneg (by decide))]
  rw [← e] at h
  unfold Oper.wp
  simp [execOp, hop, hx, hy, Op.binOp, Op.shift, Result.andThen]
  exact hK _ _ h
theorem ty_u64 : Try.prog.underlying 22 = some (.int .u64) := by kernel_rfl

set_option maxHeartbeats 1000000 in
theorem put_any (g c N s n cap B : Nat) (l : List UInt8) (v : Int) (w0 w : World) (hO : OwnE w g c N l) (hs : s + n ≤ N) (hn : n ≤ 8) (hv : 0 ≤ v) (hb : Below B w0 w) (hB : B ≤ g) :
    Calls Try.prog 20 #[.slice (some ⟨g, s, none⟩) n cap, .int .u64 v] w fun e w' => e = .returned (.tuple #[]) ∧ OwnE w' g c N (putL l s v.toNat n) ∧ Below B w0 w' := by
  have HO := Lib.hid hO
  have HB := Lib.hid hb
  clear hO hb
  go_enter Try.func20, Try.ntmps20
  go_wp2
  go_loopw [7] (fun i wr => ∃ k : Nat, k ≤ n ∧ i = .int .i64 k ∧ Hid (OwnE wr g c N (putL l s v.toNat k)) ∧ Hid (Below B w0 wr)) (fun i _ => n - (intOf i).toNat)
  case atStart => exact ⟨0, Nat.zero_le _, rfl, HO, HB⟩
  case round =>
    obtain ⟨k, hk, rfl, HR, HW⟩ := hrel
    by_cases hlt : k < n
    · obtain ⟨K, hK⟩ : ∃ K : Nat, K = 8 * k := ⟨_, rfl⟩
      have hK' : 8 * (k : Int) = (K : Int) := by omega
      have hK64 : K ≤ 64 := by omega
      obtain ⟨r, hr⟩ : ∃ r, v / 2 ^ K = r := ⟨_, rfl⟩
      have hcell := HR.out.cell (j := s + k) (by omega)
      have hfro := HR.out.frozen (s + k)
      have HV : Hid (r % 256 = ((UInt8.ofNat (v.toNat / 256 ^ k)).toNat : Int)) := by
        show _ = _
        obtain ⟨m, rfl⟩ := Int.eq_ofNat_of_zero_le hv
        have e : (2 : Nat) ^ K = 256 ^ k := by rw [hK, Nat.pow_mul]
        have e2 : ((m : Int) / 2 ^ K) = ((m / 256 ^ k : Nat) : Int) := by
          rw [← e, Int.natCast_ediv, Int.natCast_pow]; rfl
        rw [← hr, e2, UInt8.toNat_ofNat']
        rfl
      have HR' := Lib.hid hr
      clear hr hK
      go_wp2_with (refine wpList_shr64 _ rfl _ _ _ _ rfl ty_u64 _ K hK64 (by exact rfl) (by exact rfl) r HR'.out ?_)
      go_roundw
      case rel =>
        refine ⟨k + 1, by omega, by go_num, Lib.hid ?_, Lib.hid (HW.out.setCell (p := ⟨g, s + k, none⟩) hB _)⟩
        exact HR.out.set_cell (by omega) _ _ HV.out
      case measure => simp [intOf]; omega
    · obtain rfl : k = n := by omega
      go_wp2
      go_end0
      exact ⟨rfl, HR.out, HW.out⟩

end Go.Proofs.Ytdahnkampjkelaa
