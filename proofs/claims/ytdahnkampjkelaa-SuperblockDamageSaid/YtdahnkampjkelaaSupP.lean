/-
  Superblocks as plain records, their encoding and what decoding answers: plain facts, no program.
-/
import Derived.Test.YtdahnkampjkelaaFrP
namespace Go.Proofs.Ytdahnkampjkelaa
open Go.RowKit

/-- A superblock. -/
structure Sup where
  g : Nat
  a : Int
  e : W32
  n : Int
  s : W32
/-- The superblock of zeros. -/
def Sup.no : Sup := ⟨0, 0, 0#32, 0, 0#32⟩
/-- Valid. -/
def Sup.ok (Z : Sup) : Prop := (Z.a = 0 ∨ Z.a = 1) ∧ 0 ≤ Z.n ∧ Z.n ≤ 262144
/-- The bytes ahead of the zeros. -/
def Sup.hd (Z : Sup) : List UInt8 := [72, 83, 84, 83, 1, UInt8.ofNat Z.a.toNat] ++ (fixedB (BitVec.ofNat 32 Z.g) ++ (fixedB (BitVec.ofNat 32 (Z.g / 4294967296)) ++ (fixedB Z.e ++ (fixedB (BitVec.ofNat 32 Z.n.toNat) ++ fixedB Z.s))))
def Sup.body (Z : Sup) : List UInt8 := Z.hd ++ List.replicate 34 0
def Sup.enc (Z : Sup) : List UInt8 := Z.body ++ fixedB (crcSum Z.body)
/-- What lies in the fields of 64 bytes. -/
def supOf (b : List UInt8) : Sup := ⟨(wordB (b.drop 6)).toNat + (wordB (b.drop 10)).toNat * 4294967296, ((b.getD 5 0).toNat : Int), wordB (b.drop 14), ((wordB (b.drop 18)).toNat : Int), wordB (b.drop 22)⟩
open Classical in
/-- The error of decoding. -/
noncomputable def serr (b : List UInt8) : Nat :=
  if b.length ≠ 64 then 5 else if wordB (b.drop 60) ≠ crcSum (b.take 60) then 7 else if (supOf b).ok ∧ (supOf b).enc = b then 0 else 6
/-- The superblock that decoding answers. -/
noncomputable def sgot (b : List UInt8) : Sup := if serr b = 0 then supOf b else Sup.no

theorem Sup.hd_length (Z : Sup) : Z.hd.length = 26 := rfl
theorem Sup.body_length (Z : Sup) : Z.body.length = 60 := by simp [Sup.body, Sup.hd_length]
theorem Sup.enc_length (Z : Sup) : Z.enc.length = 64 := by simp [Sup.enc, Sup.body_length, fixedB_length]

section
variable {b : List UInt8}
theorem serr_5 (h : b.length ≠ 64) : serr b = 5 := by unfold serr; rw [if_pos h]
theorem serr_7 (h : b.length = 64) (h2 : wordB (b.drop 60) ≠ crcSum (b.take 60)) : serr b = 7 := by unfold serr; rw [if_neg (by simpa using h), if_pos h2]
theorem serr_6 (h : b.length = 64) (h2 : wordB (b.drop 60) = crcSum (b.take 60)) (h3 : ¬ ((supOf b).ok ∧ (supOf b).enc = b)) : serr b = 6 := by
  unfold serr; rw [if_neg (by simpa using h), if_neg (by simpa using h2), if_neg h3]
theorem serr_0 (h : b.length = 64) (h2 : wordB (b.drop 60) = crcSum (b.take 60)) (h3 : (supOf b).ok ∧ (supOf b).enc = b) : serr b = 0 := by
  unfold serr; rw [if_neg (by simpa using h), if_neg (by simpa using h2), if_pos h3]
theorem sgot_yes (h : serr b = 0) : sgot b = supOf b := by unfold sgot; rw [if_pos h]
theorem sgot_no (h : serr b ≠ 0) : sgot b = Sup.no := by unfold sgot; rw [if_neg h]
end

theorem Sup.drop6 (Z : Sup) (rest : List UInt8) : (Z.hd ++ rest).drop 6 = fixedB (BitVec.ofNat 32 Z.g) ++ (fixedB (BitVec.ofNat 32 (Z.g / 4294967296)) ++ (fixedB Z.e ++ (fixedB (BitVec.ofNat 32 Z.n.toNat) ++ (fixedB Z.s ++ rest)))) := rfl
theorem Sup.drop10 (Z : Sup) (rest : List UInt8) : (Z.hd ++ rest).drop 10 = fixedB (BitVec.ofNat 32 (Z.g / 4294967296)) ++ (fixedB Z.e ++ (fixedB (BitVec.ofNat 32 Z.n.toNat) ++ (fixedB Z.s ++ rest))) := rfl
theorem Sup.drop14 (Z : Sup) (rest : List UInt8) : (Z.hd ++ rest).drop 14 = fixedB Z.e ++ (fixedB (BitVec.ofNat 32 Z.n.toNat) ++ (fixedB Z.s ++ rest)) := rfl
theorem Sup.drop18 (Z : Sup) (rest : List UInt8) : (Z.hd ++ rest).drop 18 = fixedB (BitVec.ofNat 32 Z.n.toNat) ++ (fixedB Z.s ++ rest) := rfl
theorem Sup.drop22 (Z : Sup) (rest : List UInt8) : (Z.hd ++ rest).drop 22 = fixedB Z.s ++ rest := rfl
/-- The fields of what begins with the bytes of a superblock. -/
theorem supOf_hd (Z : Sup) (rest : List UInt8) (hz : Z.ok) (hg : Z.g < 18446744073709551616) : supOf (Z.hd ++ rest) = Z := by
  unfold supOf
  rw [Z.drop6, Z.drop10, Z.drop14, Z.drop18, Z.drop22, wordB_fixedB, wordB_fixedB, wordB_fixedB, wordB_fixedB, wordB_fixedB]
  have h5 : (Z.hd ++ rest).getD 5 0 = UInt8.ofNat Z.a.toNat := rfl
  rw [h5]
  obtain ⟨h1, h2, h3⟩ := hz
  have ha : ((UInt8.ofNat Z.a.toNat).toNat : Int) = Z.a := by rcases h1 with h | h <;> rw [h] <;> rfl
  rw [ha, BitVec.toNat_ofNat, BitVec.toNat_ofNat, BitVec.toNat_ofNat]
  have e1 : Z.g % 2 ^ 32 + Z.g / 4294967296 % 2 ^ 32 * 4294967296 = Z.g := by omega
  have e2 : ((Z.n.toNat % 2 ^ 32 : Nat) : Int) = Z.n := by omega
  rw [e1, e2]
theorem supOf_enc (Z : Sup) (hz : Z.ok) (hg : Z.g < 18446744073709551616) : supOf Z.enc = Z := by
  unfold Sup.enc Sup.body
  rw [List.append_assoc]
  exact supOf_hd Z _ hz hg
theorem Sup.enc_take (Z : Sup) : Z.enc.take 60 = Z.body := by
  unfold Sup.enc
  rw [List.take_append_of_le_length (by rw [Z.body_length]; omega), List.take_of_length_le (by rw [Z.body_length]; omega)]
theorem Sup.enc_drop (Z : Sup) : Z.enc.drop 60 = fixedB (crcSum Z.body) := by
  unfold Sup.enc
  rw [List.drop_append_of_le_length (by rw [Z.body_length]; omega), List.drop_of_length_le (by rw [Z.body_length]; omega), List.nil_append]
theorem wordB_fixedB0 (s : W32) : wordB (fixedB s) = s := by have := wordB_fixedB s []; rwa [List.append_nil] at this
/-- The encoding of a valid superblock is decoded. -/
theorem serr_enc (Z : Sup) (hz : Z.ok) (hg : Z.g < 18446744073709551616) : serr Z.enc = 0 := by
  have h : supOf Z.enc = Z := supOf_enc Z hz hg
  exact serr_0 Z.enc_length (by rw [Z.enc_drop, Z.enc_take, wordB_fixedB0]) ⟨by rw [h]; exact hz, by rw [h]⟩
theorem sgot_enc (Z : Sup) (hz : Z.ok) (hg : Z.g < 18446744073709551616) : sgot Z.enc = Z := by
  rw [sgot_yes (serr_enc Z hz hg), supOf_enc Z hz hg]
/-- A superblock of which some bits within 32 consecutive ones are changed. -/
theorem serr_burst (Z : Sup) (a pat : Nat) (ha : a / 8 < 64) (hp : pat % 2 = 1) : serr (flips Z.enc a pat 32) = 7 := by
  have h0 : hits Z.enc.length a pat 0 = true := by
    unfold hits
    rw [Z.enc_length, decide_eq_true (by simpa using hp), decide_eq_true (by simpa using ha)]; rfl
  have hany : ∀ k, anyHit Z.enc.length a pat (k + 1) = true := by
    intro k
    induction k with
    | zero => show (false || hits Z.enc.length a pat 0) = true; rw [h0]; rfl
    | succ k ih => show (anyHit Z.enc.length a pat (k + 1) || _) = true; rw [ih, Bool.true_or]
  have hne := flips_some (hany 31)
  have hl : (flips Z.enc a pat 32).length = 64 := by rw [flips_length, Z.enc_length]
  obtain ⟨F, hF⟩ : ∃ F, F = flips Z.enc a pat 32 := ⟨_, rfl⟩
  rw [← hF] at hl hne ⊢
  refine serr_7 hl ?_
  have hd : (F.drop 60).length = 4 := by simp; omega
  match hx : F.drop 60, hd with
  | [w0, w1, w2, w3], _ =>
    intro hw
    have hcut : flips (Z.body ++ fixedB (crcSum Z.body)) a pat 32 = F.take 60 ++ [w0, w1, w2, w3] := by
      rw [← hx, List.take_append_drop, hF]; rfl
    have hb := (burst_word Z.body a pat (F.take 60) w0 w1 w2 w3 hcut).1 hw.symm
    exact hne (by rw [hF]; exact hb)

end Go.Proofs.Ytdahnkampjkelaa
