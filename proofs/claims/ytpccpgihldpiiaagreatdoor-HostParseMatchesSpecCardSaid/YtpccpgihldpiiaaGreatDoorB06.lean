/-
The library's own decoding of UTF-8 in the words of UtfP: what is valid, how many code points there are, the first one, the bytes of one. No program.
Labels in plain words: canonical labels, ToASCII, ToUnicode, and their laws. No program.
-/
import Derived.Test.YtpccpgihldpiiaaGreatDoorB05
import Derived.Lib.ValidU
import Derived.Lib.ValidLaws
import Derived.Lib.MapLaws
import Derived.Lib.RuneCount
import Derived.Lib.RuneBytes
namespace Go.Proofs.YtpccpgihldpiiaaGreatDoor
section
open Go.RowKit

/-- 'one8' over numbers: n bytes are left, the first four as numbers. -/
def badU (u least : Nat) : Prop := u < least ∨ ¬ (u ≤ 1114111 ∧ (u < 55296 ∨ 57343 < u))
instance (u least : Nat) : Decidable (badU u least) := by unfold badU; exact inferInstance
def oneN (n b0 b1 b2 b3 : Nat) : Option (Nat × Nat) :=
  if b0 < 128 then some (b0, 0)
  else if 194 ≤ b0 ∧ b0 < 224 then (if 1 < n ∧ 128 ≤ b1 ∧ b1 ≤ 191 then some ((b0 - 192) * 64 + b1 - 128, 1) else none)
  else if 224 ≤ b0 ∧ b0 < 240 then (if (1 < n ∧ 128 ≤ b1 ∧ b1 ≤ 191) ∧ (2 < n ∧ 128 ≤ b2 ∧ b2 ≤ 191) then
      (if badU (((b0 - 224) * 64 + b1 - 128) * 64 + b2 - 128) 2048 then none else some (((b0 - 224) * 64 + b1 - 128) * 64 + b2 - 128, 2)) else none)
  else if 240 ≤ b0 ∧ b0 < 245 then (if (1 < n ∧ 128 ≤ b1 ∧ b1 ≤ 191) ∧ (2 < n ∧ 128 ≤ b2 ∧ b2 ≤ 191) ∧ (3 < n ∧ 128 ≤ b3 ∧ b3 ≤ 191) then
      (if badU ((((b0 - 240) * 64 + b1 - 128) * 64 + b2 - 128) * 64 + b3 - 128) 65536 then none else some ((((b0 - 240) * 64 + b1 - 128) * 64 + b2 - 128) * 64 + b3 - 128, 3)) else none)
  else none
theorem ptN_iff (u : Nat) : ptN u = true ↔ u ≤ 1114111 ∧ (u < 55296 ∨ 57343 < u) := by
  unfold ptN
  simp only [Bool.and_eq_true, Bool.or_eq_true, decide_eq_true_eq]
theorem badU_iff (u least : Nat) : (u < least ∨ ptN u = false) ↔ badU u least := by
  unfold badU
  rw [← ptN_iff, Bool.not_eq_true]
theorem one8_2 (b : UInt8) (l : List UInt8) (h : 194 ≤ b.toNat ∧ b.toNat < 224) : one8 b l = oneN (l.length + 1) b.toNat (l.getD 0 0).toNat (l.getD 1 0).toNat (l.getD 2 0).toNat := by
  have e : lead8 b.toNat = some (1, b.toNat - 192, 128) := by unfold lead8; rw [if_neg (by omega), if_pos h]
  unfold one8 oneN
  rw [e, if_neg (by omega), if_pos h]
  rcases l with _ | ⟨c, t⟩
  · rw [if_neg (by simp)]
    rfl
  · simp only [cont8]
    rw [show ((c :: t).getD 0 0) = c from rfl]
    by_cases hc : 128 ≤ c.toNat ∧ c.toNat ≤ 191
    · rw [if_pos hc, if_pos ⟨by simp, hc⟩]
      simp only []
      rw [if_neg]
      rw [badU_iff]
      unfold badU
      omega
    · rw [if_neg hc, if_neg (fun x => hc x.2)]
theorem one8_3 (b : UInt8) (l : List UInt8) (h : 224 ≤ b.toNat ∧ b.toNat < 240) : one8 b l = oneN (l.length + 1) b.toNat (l.getD 0 0).toNat (l.getD 1 0).toNat (l.getD 2 0).toNat := by
  have e : lead8 b.toNat = some (2, b.toNat - 224, 2048) := by unfold lead8; rw [if_neg (by omega), if_neg (by omega), if_pos h]
  unfold one8 oneN
  rw [e, if_neg (by omega), if_neg (by omega), if_pos h]
  rcases l with _ | ⟨c, _ | ⟨d, t⟩⟩
  · rw [if_neg (by simp)]
    rfl
  · rw [if_neg (by simp)]
    simp only [cont8]
    by_cases hc : 128 ≤ c.toNat ∧ c.toNat ≤ 191
    · rw [if_pos hc]
    · rw [if_neg hc]
  · simp only [cont8]
    rw [show ((c :: d :: t).getD 0 0) = c from rfl, show ((c :: d :: t).getD 1 0) = d from rfl]
    by_cases hc : 128 ≤ c.toNat ∧ c.toNat ≤ 191
    · by_cases hd : 128 ≤ d.toNat ∧ d.toNat ≤ 191
      · rw [if_pos hc, if_pos hd, if_pos ⟨⟨by simp, hc⟩, ⟨by simp, hd⟩⟩]
        simp only [badU_iff]
      · rw [if_pos hc, if_neg hd, if_neg (fun x => hd x.2.2)]
    · rw [if_neg hc, if_neg (fun x => hc x.1.2)]
theorem one8_4 (b : UInt8) (l : List UInt8) (h : 240 ≤ b.toNat ∧ b.toNat < 245) : one8 b l = oneN (l.length + 1) b.toNat (l.getD 0 0).toNat (l.getD 1 0).toNat (l.getD 2 0).toNat := by
  have e : lead8 b.toNat = some (3, b.toNat - 240, 65536) := by unfold lead8; rw [if_neg (by omega), if_neg (by omega), if_neg (by omega), if_pos h]
  unfold one8 oneN
  rw [e, if_neg (by omega), if_neg (by omega), if_neg (by omega), if_pos h]
  rcases l with _ | ⟨c, _ | ⟨d, _ | ⟨g, t⟩⟩⟩
  · rw [if_neg (by simp)]
    rfl
  · rw [if_neg (by simp)]
    simp only [cont8]
    by_cases hc : 128 ≤ c.toNat ∧ c.toNat ≤ 191
    · rw [if_pos hc]
    · rw [if_neg hc]
  · rw [if_neg (by simp)]
    simp only [cont8]
    by_cases hc : 128 ≤ c.toNat ∧ c.toNat ≤ 191
    · by_cases hd : 128 ≤ d.toNat ∧ d.toNat ≤ 191
      · rw [if_pos hc, if_pos hd]
      · rw [if_pos hc, if_neg hd]
    · rw [if_neg hc]
  · simp only [cont8]
    rw [show ((c :: d :: g :: t).getD 0 0) = c from rfl, show ((c :: d :: g :: t).getD 1 0) = d from rfl, show ((c :: d :: g :: t).getD 2 0) = g from rfl]
    by_cases hc : 128 ≤ c.toNat ∧ c.toNat ≤ 191
    · by_cases hd : 128 ≤ d.toNat ∧ d.toNat ≤ 191
      · by_cases hg : 128 ≤ g.toNat ∧ g.toNat ≤ 191
        · rw [if_pos hc, if_pos hd, if_pos hg, if_pos ⟨⟨by simp, hc⟩, ⟨by simp, hd⟩, ⟨by simp, hg⟩⟩]
          simp only [badU_iff]
        · rw [if_pos hc, if_pos hd, if_neg hg, if_neg (fun x => hg x.2.2.2)]
      · rw [if_pos hc, if_neg hd, if_neg (fun x => hd x.2.1.2)]
    · rw [if_neg hc, if_neg (fun x => hc x.1.2)]
theorem one8_N (b : UInt8) (l : List UInt8) : one8 b l = oneN (l.length + 1) b.toNat (l.getD 0 0).toNat (l.getD 1 0).toNat (l.getD 2 0).toNat := by
  by_cases h1 : b.toNat < 128
  · have e : lead8 b.toNat = some (0, b.toNat, 0) := by unfold lead8; rw [if_pos h1]
    unfold one8 oneN
    rw [e, if_pos h1]
    simp only [cont8]
    rw [if_neg]
    rw [badU_iff]
    unfold badU
    omega
  · by_cases h2 : 194 ≤ b.toNat ∧ b.toNat < 224
    · exact one8_2 b l h2
    · by_cases h3 : 224 ≤ b.toNat ∧ b.toNat < 240
      · exact one8_3 b l h3
      · by_cases h4 : 240 ≤ b.toNat ∧ b.toNat < 245
        · exact one8_4 b l h4
        · have e : lead8 b.toNat = none := by unfold lead8; rw [if_neg h1, if_neg h2, if_neg h3, if_neg h4]
          unfold one8 oneN
          rw [e, if_neg h1, if_neg h2, if_neg h3, if_neg h4]

set_option maxHeartbeats 2000000 in
theorem oneN_decode (n b0 b1 b2 b3 : Nat) (h0 : b0 < 256) (h1 : b1 < 256) (h2 : b2 < 256) (h3 : b3 < 256) :
    (oneN n b0 b1 b2 b3 = none ∧ Lib.decodeN n b0 b1 b2 b3 = (65533, 1)) ∨ ∃ u k, oneN n b0 b1 b2 b3 = some (u, k) ∧ Lib.decodeN n b0 b1 b2 b3 = (u, k + 1) ∧ (128 ≤ b0 → 1 ≤ k) := by
  by_cases c1 : b0 < 128
  · refine .inr ⟨b0, 0, ?_, ?_, by omega⟩
    · unfold oneN; rw [if_pos c1]
    · unfold Lib.decodeN; rw [if_pos c1]
  · by_cases c2 : 194 ≤ b0 ∧ b0 < 224
    · have e : oneN n b0 b1 b2 b3 = if 1 < n ∧ 128 ≤ b1 ∧ b1 ≤ 191 then some ((b0 - 192) * 64 + b1 - 128, 1) else none := by unfold oneN; rw [if_neg c1, if_pos c2]
      by_cases c : 1 < n ∧ 128 ≤ b1 ∧ b1 ≤ 191
      · refine .inr ⟨_, 1, by rw [e, if_pos c], ?_, by omega⟩
        unfold Lib.decodeN
        rw [if_neg c1, if_pos ⟨by omega, by omega, by omega⟩, if_pos (by omega), show b0 % 32 * 64 + b1 % 64 = (b0 - 192) * 64 + b1 - 128 by omega]
      · refine .inl ⟨by rw [e, if_neg c], ?_⟩
        unfold Lib.decodeN
        rw [if_neg c1, if_neg (by omega), if_neg (by omega), if_neg (by omega)]
    · by_cases c3 : 224 ≤ b0 ∧ b0 < 240
      · have e : oneN n b0 b1 b2 b3 = if (1 < n ∧ 128 ≤ b1 ∧ b1 ≤ 191) ∧ (2 < n ∧ 128 ≤ b2 ∧ b2 ≤ 191) then (if badU (((b0 - 224) * 64 + b1 - 128) * 64 + b2 - 128) 2048 then none else some (((b0 - 224) * 64 + b1 - 128) * 64 + b2 - 128, 2)) else none := by
          unfold oneN; rw [if_neg c1, if_neg c2, if_pos c3]
        by_cases c : (1 < n ∧ 128 ≤ b1 ∧ b1 ≤ 191) ∧ (2 < n ∧ 128 ≤ b2 ∧ b2 ≤ 191)
        · have es : b0 % 16 * 4096 + b1 % 64 * 64 + b2 % 64 = ((b0 - 224) * 64 + b1 - 128) * 64 + b2 - 128 := by omega
          rw [if_pos c] at e
          have hD : Lib.decodeN n b0 b1 b2 b3 = if b0 % 16 * 4096 + b1 % 64 * 64 + b2 % 64 ≥ 2048 ∧ (b0 % 16 * 4096 + b1 % 64 * 64 + b2 % 64 < 55296 ∨ (57344 ≤ b0 % 16 * 4096 + b1 % 64 * 64 + b2 % 64 ∧ b0 % 16 * 4096 + b1 % 64 * 64 + b2 % 64 ≤ 1114111)) then (b0 % 16 * 4096 + b1 % 64 * 64 + b2 % 64, 3) else (65533, 1) := by
            unfold Lib.decodeN
            rw [if_neg c1, if_neg (by omega), if_pos ⟨by omega, by omega, by omega⟩]
          rw [es] at hD
          rw [e, hD]
          generalize ((b0 - 224) * 64 + b1 - 128) * 64 + b2 - 128 = u
          by_cases cb : badU u 2048
          · refine .inl ⟨if_pos cb, ?_⟩
            rw [if_neg (by unfold badU at cb; omega)]
          · refine .inr ⟨u, 2, if_neg cb, ?_, by omega⟩
            rw [if_pos (by unfold badU at cb; omega)]
        · refine .inl ⟨by rw [e, if_neg c], ?_⟩
          unfold Lib.decodeN
          rw [if_neg c1, if_neg (by omega), if_neg (by omega), if_neg (by omega)]
      · by_cases c4 : 240 ≤ b0 ∧ b0 < 245
        · have e : oneN n b0 b1 b2 b3 = if (1 < n ∧ 128 ≤ b1 ∧ b1 ≤ 191) ∧ (2 < n ∧ 128 ≤ b2 ∧ b2 ≤ 191) ∧ (3 < n ∧ 128 ≤ b3 ∧ b3 ≤ 191) then
              (if badU ((((b0 - 240) * 64 + b1 - 128) * 64 + b2 - 128) * 64 + b3 - 128) 65536 then none else some ((((b0 - 240) * 64 + b1 - 128) * 64 + b2 - 128) * 64 + b3 - 128, 3)) else none := by
            unfold oneN; rw [if_neg c1, if_neg c2, if_neg c3, if_pos c4]
          by_cases c : (1 < n ∧ 128 ≤ b1 ∧ b1 ≤ 191) ∧ (2 < n ∧ 128 ≤ b2 ∧ b2 ≤ 191) ∧ (3 < n ∧ 128 ≤ b3 ∧ b3 ≤ 191)
          · have es : b0 % 8 * 262144 + b1 % 64 * 4096 + b2 % 64 * 64 + b3 % 64 = (((b0 - 240) * 64 + b1 - 128) * 64 + b2 - 128) * 64 + b3 - 128 := by omega
            rw [if_pos c] at e
            have hD : Lib.decodeN n b0 b1 b2 b3 = if b0 % 8 * 262144 + b1 % 64 * 4096 + b2 % 64 * 64 + b3 % 64 ≥ 65536 ∧ (b0 % 8 * 262144 + b1 % 64 * 4096 + b2 % 64 * 64 + b3 % 64 < 55296 ∨ (57344 ≤ b0 % 8 * 262144 + b1 % 64 * 4096 + b2 % 64 * 64 + b3 % 64 ∧ b0 % 8 * 262144 + b1 % 64 * 4096 + b2 % 64 * 64 + b3 % 64 ≤ 1114111)) then (b0 % 8 * 262144 + b1 % 64 * 4096 + b2 % 64 * 64 + b3 % 64, 4) else (65533, 1) := by
              unfold Lib.decodeN
              rw [if_neg c1, if_neg (by omega), if_neg (by omega), if_pos ⟨by omega, by omega, by omega, by omega⟩]
            rw [es] at hD
            rw [e, hD]
            generalize (((b0 - 240) * 64 + b1 - 128) * 64 + b2 - 128) * 64 + b3 - 128 = u
            by_cases cb : badU u 65536
            · refine .inl ⟨if_pos cb, ?_⟩
              rw [if_neg (by unfold badU at cb; omega)]
            · refine .inr ⟨u, 3, if_neg cb, ?_, by omega⟩
              rw [if_pos (by unfold badU at cb; omega)]
          · refine .inl ⟨by rw [e, if_neg c], ?_⟩
            unfold Lib.decodeN
            rw [if_neg c1, if_neg (by omega), if_neg (by omega), if_neg (by omega)]
        · have e : oneN n b0 b1 b2 b3 = none := by unfold oneN; rw [if_neg c1, if_neg c2, if_neg c3, if_neg c4]
          exact .inl ⟨e, Lib.decodeN_bad n b0 b1 b2 b3 (by omega)⟩
/-- The library's decoder and 'one8'. -/
theorem dec_one8 (b : UInt8) (l : List UInt8) :
    (one8 b l = none ∧ Lib.decodeL (b :: l) = (65533, 1)) ∨ ∃ u k, one8 b l = some (u, k) ∧ Lib.decodeL (b :: l) = (u, k + 1) ∧ ¬ (u = 65533 ∧ k + 1 = 1) := by
  rw [one8_N, Lib.decodeL_N]
  have e : ∀ i, (b :: l).getD (i + 1) 0 = l.getD i 0 := fun i => rfl
  rw [e 0, e 1, e 2, show (b :: l).getD 0 0 = b from rfl, List.length_cons]
  rcases oneN_decode (l.length + 1) b.toNat (l.getD 0 0).toNat (l.getD 1 0).toNat (l.getD 2 0).toNat b.toNat_lt (UInt8.toNat_lt _) (UInt8.toNat_lt _) (UInt8.toNat_lt _) with h | ⟨u, k, h1, h2, h3⟩
  · exact .inl h
  · refine .inr ⟨u, k, h1, h2, ?_⟩
    rintro ⟨hu, hk⟩
    by_cases hb : 128 ≤ b.toNat
    · have := h3 hb
      omega
    · unfold oneN at h1
      rw [if_pos (by omega)] at h1
      obtain ⟨e1, _⟩ := Prod.mk.inj (Option.some.inj h1)
      omega

theorem validD_pts : ∀ (f : Nat) (l : List UInt8), l.length ≤ f → Lib.validGoD f l = (ptsL l).isSome
  | 0, l, h => by
    have : l = [] := List.eq_nil_of_length_eq_zero (by omega)
    subst this
    rfl
  | f + 1, [], _ => rfl
  | f + 1, b :: l, h => by
    rw [Lib.validGoD, if_neg (by simp), ptsL_cons]
    rcases dec_one8 b l with ⟨h1, h2⟩ | ⟨u, k, h1, h2, h3⟩
    · rw [h1, h2]
      rfl
    · rw [h1, h2]
      simp only []
      rw [if_neg h3, List.drop_succ_cons, validD_pts f (l.drop k) (by simp at h ⊢; omega)]
      cases ptsL (l.drop k) <;> rfl
theorem valid_pts (s : ByteArray) : Lib.validD s.data.toList = (ptsL (ls s)).isSome := validD_pts _ _ (Nat.le_refl _)

theorem dec_at (s : ByteArray) (pos : Nat) : Utf8.decode s pos = Lib.decodeL ((ls s).drop pos) := (Lib.decodeL_drop s pos).symm
theorem count_pts (s : ByteArray) : ∀ (f pos : Nat) (P : List Nat), s.size ≤ pos + f → ptsL ((ls s).drop pos) = some P → Lib.runeCountFrom s f pos = P.length
  | f, pos, P, hf, hp => by
    by_cases hlt : pos < s.size
    · obtain ⟨g, rfl⟩ : ∃ g, f = g + 1 := ⟨f - 1, by omega⟩
      have hdr := drop_ls_cons s pos hlt
      rw [hdr, ptsL_cons] at hp
      rw [Lib.runeCountFrom, if_pos hlt, dec_at, hdr]
      rcases dec_one8 s[pos] ((ls s).drop (pos + 1)) with ⟨h1, h2⟩ | ⟨u, k, h1, h2, _⟩
      · rw [h1] at hp
        cases hp
      · rw [h1] at hp
        simp only [Option.map_eq_some_iff] at hp
        obtain ⟨Q, hQ, rfl⟩ := hp
        rw [List.drop_drop] at hQ
        rw [h2]
        simp only []
        rw [count_pts s g (pos + (k + 1)) Q (by omega) (by rw [show pos + (k + 1) = pos + 1 + k by omega]; exact hQ), List.length_cons]
        omega
    · have : (ls s).drop pos = [] := List.drop_eq_nil_of_le (by rw [ls_length]; omega)
      rw [this] at hp
      injection hp with hp
      subst hp
      rw [Lib.runeCountFrom_end s f pos hlt]
      rfl
theorem runeCount_pts {s : ByteArray} {P : List Nat} (h : ptsL (ls s) = some P) : Lib.runeCount s = P.length :=
  count_pts s s.size 0 P (by omega) (by rw [List.drop_zero]; exact h)
/-- The first code point of valid text. -/
theorem decode_pts {s : ByteArray} {p : Nat} {P : List Nat} (h : ptsL (ls s) = some (p :: P)) :
    ∃ k, Utf8.decode s 0 = (p, k) ∧ 1 ≤ k ∧ k ≤ s.size ∧ ptsL ((ls s).drop k) = some P := by
  rw [dec_at, List.drop_zero]
  cases hl : ls s with
  | nil => rw [hl, ptsL_nil] at h; cases h
  | cons b l =>
    rw [hl, ptsL_cons] at h
    rcases dec_one8 b l with ⟨h1, h2⟩ | ⟨u, k, h1, h2, _⟩
    · rw [h1] at h; cases h
    · rw [h1] at h
      simp only [Option.map_eq_some_iff, List.cons.injEq] at h
      obtain ⟨Q, hQ, rfl, rfl⟩ := h
      obtain ⟨_, h4, _⟩ := txt_one8 h1
      refine ⟨k + 1, h2, by omega, ?_, by rw [List.drop_succ_cons]; exact hQ⟩
      rw [← ls_length, hl, List.length_cons]
      omega
/-- The bytes that are laid for a code point. -/
theorem cells_txt {p : Nat} (h : ptN p = true) : Lib.runeCells (p : Int) = (txt8 p).map bv := by
  rw [ptN_iff] at h
  unfold Lib.runeCells txt8
  by_cases c1 : p < 128
  · rw [Lib.encodeRuneZ_one (by omega) (by omega), if_pos c1]
    simp only [List.map_cons, List.map_nil, bv_eq]
    rw [of8 (by omega)]
  · by_cases c2 : p < 2048
    · rw [Lib.encodeRuneZ_two (by omega) (by omega), if_neg c1, if_pos c2]
      simp only [List.map_cons, List.map_nil, bv_eq]
      rw [of8 (by omega), of8 (by omega)]
      rfl
    · by_cases c3 : p < 65536
      · rw [Lib.encodeRuneZ_three (by omega), if_neg c1, if_neg c2, if_pos c3]
        simp only [List.map_cons, List.map_nil, bv_eq]
        rw [of8 (by omega), of8 (by omega), of8 (by omega)]
        rfl
      · rw [Lib.encodeRuneZ_four (by omega) (by omega), if_neg c1, if_neg c2, if_neg c3]
        simp only [List.map_cons, List.map_nil, bv_eq]
        rw [of8 (by omega), of8 (by omega), of8 (by omega), of8 (by omega)]
        rfl
end

section
open Go.RowKit

/-- The four bytes of 'xn--'. -/
def xnL : List UInt8 := [120, 110, 45, 45]
def okN (n : Nat) : Bool := (decide (97 ≤ n) && decide (n ≤ 122)) || (decide (48 ≤ n) && decide (n ≤ 57)) || n == 45 || n == 95
def bigP (p : Nat) : Bool := decide (65 ≤ p) && decide (p ≤ 90)
/-- Whether the rest behind 'xn--' is proper. -/
def propL (r : List UInt8) : Bool := match decL r with
  | .error _ => false
  | .ok p => p.any (fun x => decide (128 ≤ x)) && p.all (fun x => !bigP x) && decide (encB p = r)
def endsL (l : List UInt8) : Bool := decide (l ≠ []) && decide (l.length ≤ 63) && decide (l.head? ≠ some 45) && decide (l.getLast? ≠ some 45)
def labL (l : List UInt8) : Bool := endsL l && l.all (fun b => okN b.toNat) && (decide (l.take 4 ≠ xnL) || propL (l.drop 4))
def toAOut (l : List UInt8) (P : List Nat) : List UInt8 := if P.length < l.length then xnL ++ encB (P.map lowP) else lowL l
def toA (l : List UInt8) : Nat × List UInt8 := match ptsL l with
  | none => (4, [])
  | some P => if 256 < P.length then (3, []) else if labL (toAOut l P) = true then (0, toAOut l P) else (14, [])
def toUOut (l : List UInt8) : List UInt8 := if l.take 4 = xnL then txtL (puV' (l.drop 4)) else l
where puV' (r : List UInt8) : List Nat := match decL r with
  | .ok p => p
  | .error _ => []
def toU (l : List UInt8) : Nat × List UInt8 := if labL l = true then (0, toUOut l) else (14, [])

theorem okN_ascii {n : Nat} (h : okN n = true) : n < 128 ∧ ¬ (65 ≤ n ∧ n ≤ 90) := by
  unfold okN at h
  simp only [Bool.or_eq_true, Bool.and_eq_true, decide_eq_true_eq, beq_iff_eq] at h
  omega
theorem lab_all {l : List UInt8} (h : labL l = true) : (∀ b ∈ l, b.toNat < 128) ∧ lowL l = l ∧ l.length ≤ 63 := by
  unfold labL at h
  simp only [Bool.and_eq_true] at h
  have ha : ∀ b ∈ l, okN b.toNat = true := fun b hb => List.all_eq_true.1 h.1.2 b hb
  refine ⟨fun b hb => (okN_ascii (ha b hb)).1, ?_, ?_⟩
  · unfold lowL
    have : l.map lowU = l.map id := List.map_congr_left fun b hb => lowU_small (by have := (okN_ascii (ha b hb)).2; omega)
    rw [this, List.map_id]
  · have := h.1.1
    unfold endsL at this
    simp only [Bool.and_eq_true, decide_eq_true_eq] at this
    omega
theorem lab_prop {l : List UInt8} (h : labL l = true) (hx : l.take 4 = xnL) : propL (l.drop 4) = true := by
  unfold labL at h
  simp only [Bool.and_eq_true, Bool.or_eq_true, decide_eq_true_eq] at h
  rcases h.2 with h | h
  · exact absurd hx h
  · exact h
theorem prop_of {r : List UInt8} (h : propL r = true) : ∃ p, decL r = .ok p ∧ (∀ x ∈ p, ptN x = true) ∧ p.length ≤ 256 ∧ (∃ x ∈ p, 128 ≤ x) ∧ p.map lowP = p ∧ encB p = r := by
  unfold propL at h
  cases hd : decL r with
  | error e => rw [hd] at h; cases h
  | ok p =>
    rw [hd] at h
    simp only [Bool.and_eq_true, decide_eq_true_eq] at h
    obtain ⟨⟨h1, h2⟩, h3⟩ := h
    obtain ⟨e1, e2, _, _⟩ := enc_dec hd
    refine ⟨p, rfl, e1, e2, ?_, ?_, h3⟩
    · obtain ⟨x, hx, hy⟩ := List.any_eq_true.1 h1
      exact ⟨x, hx, of_decide_eq_true hy⟩
    · have : p.map lowP = p.map id := List.map_congr_left fun x hx => by
        have := List.all_eq_true.1 h2 x hx
        unfold bigP at this
        unfold lowP
        rw [if_neg]
        · rfl
        · rintro ⟨a, b⟩
          rw [decide_eq_true a, decide_eq_true b] at this
          cases this
      rw [this, List.map_id]
theorem toA_lab {a : List UInt8} (h : labL a = true) : toA a = (0, a) := by
  obtain ⟨h1, h2, h3⟩ := lab_all h
  unfold toA
  rw [pts_ascii h1]
  have e : toAOut a (a.map UInt8.toNat) = a := by unfold toAOut; rw [if_neg (by rw [List.length_map]; omega), h2]
  simp only [e]
  rw [if_neg (by rw [List.length_map]; omega), if_pos h]
/-- ToASCII restores a canonical label from its Unicode form. -/
theorem toA_toU {l : List UInt8} (h : labL l = true) : toA (toU l).2 = (0, l) := by
  have e : (toU l).2 = toUOut l := by unfold toU; rw [if_pos h]
  rw [e]
  by_cases hx : l.take 4 = xnL
  · obtain ⟨p, hd, hp, hl, hn, hlow, henc⟩ := prop_of (lab_prop h hx)
    have e2 : toUOut l = txtL p := by unfold toUOut toUOut.puV'; rw [if_pos hx, hd]
    have e3 : toAOut (txtL p) p = l := by
      unfold toAOut
      rw [if_pos ((txtL_len p).2.1 hn), hlow, henc, ← hx, List.take_append_drop]
    rw [e2]
    unfold toA
    rw [pts_txt p hp]
    simp only [e3]
    rw [if_neg (by omega), if_pos h]
  · have e2 : toUOut l = l := by unfold toUOut; rw [if_neg hx]
    rw [e2]
    exact toA_lab h
theorem toA_low (l : List UInt8) : toA (lowL l) = toA l := by
  unfold toA
  rw [pts_low]
  cases ptsL l with
  | none => rfl
  | some P =>
    have e : toAOut (lowL l) (P.map lowP) = toAOut l P := by
      unfold toAOut
      rw [List.length_map, lowL_length, lowP_map, lowL_lowL]
    simp only [Option.map_some, e, List.length_map]
theorem toA_cases (l : List UInt8) : (toA l).1 = 0 ∧ labL (toA l).2 = true ∨ (toA l).1 ≠ 0 ∧ (toA l).2 = [] := by
  unfold toA
  cases ptsL l with
  | none => exact .inr ⟨(fun e => by cases e), rfl⟩
  | some P =>
    simp only []
    split
    · exact .inr ⟨by decide, rfl⟩
    · split
      · rename_i h; exact .inl ⟨rfl, h⟩
      · exact .inr ⟨by decide, rfl⟩
theorem toU_inj {a b : List UInt8} (ha : labL a = true) (hb : labL b = true) (h : (toU a).2 = (toU b).2) : a = b := by
  have h1 := toA_toU ha
  rw [h, toA_toU hb] at h1
  exact (Prod.mk.inj h1).2.symm
theorem toU_cases (l : List UInt8) : labL l = true ∧ (toU l).1 = 0 ∨ labL l = false ∧ toU l = (14, []) := by
  unfold toU
  by_cases h : labL l = true
  · rw [if_pos h]; exact .inl ⟨h, rfl⟩
  · rw [if_neg h]; exact .inr ⟨by simpa using h, rfl⟩
theorem toU_len {l : List UInt8} : (toU l).2.length ≤ 1024 := by
  unfold toU
  split
  · rename_i h
    obtain ⟨_, _, h3⟩ := lab_all h
    unfold toUOut
    split
    · rename_i hx
      obtain ⟨p, hd, hp, hl, _⟩ := prop_of (lab_prop h hx)
      unfold toUOut.puV'
      rw [hd]
      have : ∀ (P : List Nat), (txtL P).length ≤ 4 * P.length := by
        intro P
        induction P with
        | nil => exact Nat.le_refl _
        | cons q P ih =>
          have e : (txtL (q :: P)).length = (txt8 q).length + (txtL P).length := by
            show (txt8 q ++ txtL P).length = _
            rw [List.length_append]
          have := (txt8_len q).2.2.2
          rw [e, List.length_cons]
          omega
      have := this p
      show (txtL p).length ≤ 1024
      omega
    · show l.length ≤ 1024
      omega
  · exact Nat.zero_le _
end

end Go.Proofs.YtpccpgihldpiiaaGreatDoor
