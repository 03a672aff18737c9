/-
  Plain mathematics of frames: encoding, decoding, scanning, bursts. No program.
-/
import Derived.Test.YtdahnkampjkelaaCrcP
namespace Go.Proofs.Ytdahnkampjkelaa

def hdB (n : Nat) (e q : W32) : List UInt8 := [UInt8.ofNat n, UInt8.ofNat (n / 256)] ++ fixedB e ++ fixedB q
def bodyB (e q : W32) (pl : List UInt8) : List UInt8 := hdB pl.length e q ++ pl
def frameB (e q : W32) (pl : List UInt8) : List UInt8 := bodyB e q pl ++ fixedB (crcSum (bodyB e q pl))
theorem fixedB_length (s : W32) : (fixedB s).length = 4 := rfl
theorem hdB_length (n : Nat) (e q : W32) : (hdB n e q).length = 10 := rfl
theorem bodyB_length (e q : W32) (pl : List UInt8) : (bodyB e q pl).length = 10 + pl.length := by simp [bodyB, hdB_length]
theorem frameB_length (e q : W32) (pl : List UInt8) : (frameB e q pl).length = 14 + pl.length := by simp [frameB, bodyB_length, fixedB_length]; omega

/-- The number in the first four bytes; the length in the first two. -/
def wordB (l : List UInt8) : W32 := fixedW (l.getD 0 0) (l.getD 1 0) (l.getD 2 0) (l.getD 3 0)
def lenB (l : List UInt8) : Nat := (l.getD 0 0).toNat + 256 * (l.getD 1 0).toNat
theorem wordB_fixedB (s : W32) (l : List UInt8) : wordB (fixedB s ++ l) = s := fixedW_fixedB s
theorem lenB_lt (l : List UInt8) : lenB l < 65536 := by
  have := (l.getD 0 0).toNat_lt
  have := (l.getD 1 0).toNat_lt
  unfold lenB
  omega
theorem lenB_frame (n : Nat) (hn : n < 65536) (l : List UInt8) : lenB (UInt8.ofNat n :: UInt8.ofNat (n / 256) :: l) = n := by
  show (UInt8.ofNat n).toNat + 256 * (UInt8.ofNat (n / 256)).toNat = n
  simp only [UInt8.toNat_ofNat']
  omega

/-- The error of decoding. -/
def derr (l : List UInt8) (e q : W32) : Nat :=
  if l.length < 14 then 5 else if 1024 < lenB l then 3 else if l.length < 14 + lenB l then 5
  else if wordB (l.drop (10 + lenB l)) ≠ crcSum (l.take (10 + lenB l)) then 7
  else if wordB (l.drop 2) ≠ e ∨ wordB (l.drop 6) ≠ q then 8 else 0
def dpl (l : List UInt8) (e q : W32) : List UInt8 := if derr l e q = 0 then (l.drop 10).take (lenB l) else []
def dn (l : List UInt8) (e q : W32) : Nat := if derr l e q = 0 then 14 + lenB l else 0
section
variable {l : List UInt8} {e q : W32}
theorem derr_1 (h : l.length < 14) : derr l e q = 5 := by unfold derr; rw [if_pos h]
theorem derr_2 (h : ¬ l.length < 14) (h2 : 1024 < lenB l) : derr l e q = 3 := by unfold derr; rw [if_neg h, if_pos h2]
theorem derr_3 (h : ¬ l.length < 14) (h2 : ¬ 1024 < lenB l) (h3 : l.length < 14 + lenB l) : derr l e q = 5 := by unfold derr; rw [if_neg h, if_neg h2, if_pos h3]
theorem derr_4 (h : ¬ l.length < 14) (h2 : ¬ 1024 < lenB l) (h3 : ¬ l.length < 14 + lenB l) (h4 : wordB (l.drop (10 + lenB l)) ≠ crcSum (l.take (10 + lenB l))) : derr l e q = 7 := by
  unfold derr; rw [if_neg h, if_neg h2, if_neg h3, if_pos h4]
theorem derr_5 (h : ¬ l.length < 14) (h2 : ¬ 1024 < lenB l) (h3 : ¬ l.length < 14 + lenB l) (h4 : wordB (l.drop (10 + lenB l)) = crcSum (l.take (10 + lenB l))) (h5 : wordB (l.drop 2) ≠ e ∨ wordB (l.drop 6) ≠ q) : derr l e q = 8 := by
  unfold derr; rw [if_neg h, if_neg h2, if_neg h3, if_neg (fun f => f h4), if_pos h5]
theorem derr_6 (h : ¬ l.length < 14) (h2 : ¬ 1024 < lenB l) (h3 : ¬ l.length < 14 + lenB l) (h4 : wordB (l.drop (10 + lenB l)) = crcSum (l.take (10 + lenB l))) (h5 : wordB (l.drop 2) = e) (h6 : wordB (l.drop 6) = q) : derr l e q = 0 := by
  unfold derr; rw [if_neg h, if_neg h2, if_neg h3, if_neg (fun f => f h4), if_neg (by rintro (f | f); exact f h5; exact f h6)]
theorem dpl_no (h : derr l e q ≠ 0) : dpl l e q = [] := by unfold dpl; rw [if_neg h]
theorem dn_no (h : derr l e q ≠ 0) : dn l e q = 0 := by unfold dn; rw [if_neg h]
theorem dpl_yes (h : derr l e q = 0) : dpl l e q = (l.drop 10).take (lenB l) := by unfold dpl; rw [if_pos h]
theorem dn_yes (h : derr l e q = 0) : dn l e q = 14 + lenB l := by unfold dn; rw [if_pos h]
theorem derr_fit (h : derr l e q = 0) : 14 + lenB l ≤ l.length ∧ lenB l ≤ 1024 := by
  unfold derr at h
  split at h
  · omega
  split at h
  · omega
  split at h
  · omega
  omega
theorem dn_fit (h : derr l e q = 0) : 14 ≤ dn l e q ∧ dn l e q ≤ l.length ∧ (dpl l e q).length ≤ 1024 := by
  have := derr_fit h
  rw [dn_yes h, dpl_yes h]
  refine ⟨by omega, by omega, by simp; omega⟩
theorem dn_le : dn l e q ≤ l.length := by
  by_cases h : derr l e q = 0
  · exact (dn_fit h).2.1
  · rw [dn_no h]; omega
theorem derr_le : derr l e q ≤ 8 := by
  unfold derr
  split
  · omega
  split
  · omega
  split
  · omega
  split
  · omega
  split
  · omega
  · omega
end

/-- What was encoded is decoded. -/
theorem frame_parts (e q : W32) (pl rest : List UInt8) (hp : pl.length ≤ 1024) :
    lenB (frameB e q pl ++ rest) = pl.length ∧ (frameB e q pl ++ rest).length = 14 + pl.length + rest.length ∧ wordB ((frameB e q pl ++ rest).drop 2) = e ∧ wordB ((frameB e q pl ++ rest).drop 6) = q ∧
    (frameB e q pl ++ rest).take (10 + pl.length) = bodyB e q pl ∧ (frameB e q pl ++ rest).drop (10 + pl.length) = fixedB (crcSum (bodyB e q pl)) ++ rest ∧ ((frameB e q pl ++ rest).drop 10).take pl.length = pl := by
  have e1 : frameB e q pl ++ rest = UInt8.ofNat pl.length :: UInt8.ofNat (pl.length / 256) :: (fixedB e ++ (fixedB q ++ (pl ++ (fixedB (crcSum (bodyB e q pl)) ++ rest)))) := by
    simp [frameB, bodyB, hdB]
  have e2 : frameB e q pl ++ rest = bodyB e q pl ++ (fixedB (crcSum (bodyB e q pl)) ++ rest) := by simp [frameB]
  refine ⟨?_, ?_, ?_, ?_, ?_, ?_, ?_⟩
  · rw [e1]; exact lenB_frame _ (by omega) _
  · rw [List.length_append, frameB_length]
  · rw [e1]; exact wordB_fixedB e _
  · rw [e1]
    show wordB ((fixedB e ++ _).drop 4) = q
    rw [List.drop_left' (fixedB_length e)]
    exact wordB_fixedB q _
  · rw [e2, List.take_left' (bodyB_length e q pl)]
  · rw [e2, List.drop_left' (bodyB_length e q pl)]
  · rw [e2, bodyB, List.append_assoc, List.drop_left' (hdB_length _ e q), List.take_left' rfl]
theorem derr_frame (e q : W32) (pl rest : List UInt8) (hp : pl.length ≤ 1024) : derr (frameB e q pl ++ rest) e q = 0 := by
  obtain ⟨h1, h2, h3, h4, h5, h6, _⟩ := frame_parts e q pl rest hp
  refine derr_6 (by omega) (by omega) (by omega) ?_ h3 h4
  rw [h1, h5, h6, wordB_fixedB]
theorem dpl_frame (e q : W32) (pl rest : List UInt8) (hp : pl.length ≤ 1024) : dpl (frameB e q pl ++ rest) e q = pl := by
  obtain ⟨h1, _, _, _, _, _, h7⟩ := frame_parts e q pl rest hp
  rw [dpl_yes (derr_frame e q pl rest hp), h1, h7]
theorem dn_frame (e q : W32) (pl rest : List UInt8) (hp : pl.length ≤ 1024) : dn (frameB e q pl ++ rest) e q = 14 + pl.length := by
  rw [dn_yes (derr_frame e q pl rest hp), (frame_parts e q pl rest hp).1]
theorem derr_other (e e' q : W32) (pl rest : List UInt8) (hp : pl.length ≤ 1024) (he : e ≠ e') : derr (frameB e q pl ++ rest) e' q = 8 := by
  obtain ⟨h1, h2, h3, h4, h5, h6, _⟩ := frame_parts e q pl rest hp
  refine derr_5 (by omega) (by omega) (by omega) ?_ (.inl (by rw [h3]; exact he))
  rw [h1, h5, h6, wordB_fixedB]

/-- Scanning. -/
def sq (k : Nat) : W32 := BitVec.ofNat 32 k
def scanB : Nat → List UInt8 → W32 → Nat → List (List UInt8) × Nat
  | 0, _, _, _ => ([], 0)
  | f + 1, l, e, k => if derr l e (sq k) = 0 then (dpl l e (sq k) :: (scanB f (l.drop (dn l e (sq k))) e (k + 1)).1, dn l e (sq k) + (scanB f (l.drop (dn l e (sq k))) e (k + 1)).2) else ([], 0)
theorem scanB_yes {f : Nat} {l : List UInt8} {e : W32} {k : Nat} (h : derr l e (sq k) = 0) : scanB (f + 1) l e k = (dpl l e (sq k) :: (scanB f (l.drop (dn l e (sq k))) e (k + 1)).1, dn l e (sq k) + (scanB f (l.drop (dn l e (sq k))) e (k + 1)).2) := by
  show (if _ then _ else _) = _
  rw [if_pos h]
theorem scanB_no {f : Nat} {l : List UInt8} {e : W32} {k : Nat} (h : derr l e (sq k) ≠ 0) : scanB f l e k = ([], 0) := by
  cases f with
  | zero => rfl
  | succ f => show (if _ then _ else _) = _; rw [if_neg h]
theorem scanB_end (f : Nat) : ∀ (l : List UInt8) (e : W32) (k : Nat), (scanB f l e k).2 ≤ l.length ∧ ∀ p ∈ (scanB f l e k).1, p.length ≤ 1024 := by
  induction f with
  | zero => intro l e k; exact ⟨Nat.zero_le _, fun p h => by cases h⟩
  | succ f ih =>
    intro l e k
    by_cases h : derr l e (sq k) = 0
    · rw [scanB_yes h]
      obtain ⟨i1, i2⟩ := ih (l.drop (dn l e (sq k))) e (k + 1)
      have hf := dn_fit h
      refine ⟨?_, ?_⟩
      · simp only [List.length_drop] at i1
        show _ + _ ≤ _
        omega
      · intro p hp
        rcases List.mem_cons.1 hp with rfl | hp
        · exact hf.2.2
        · exact i2 p hp
    · rw [scanB_no h]; exact ⟨Nat.zero_le _, fun p h => by cases h⟩

theorem scanB_count (f : Nat) : ∀ (l : List UInt8) (e : W32) (k : Nat), 14 * (scanB f l e k).1.length ≤ (scanB f l e k).2 := by
  induction f with
  | zero => intro l e k; exact Nat.le_refl _
  | succ f ih =>
    intro l e k
    by_cases h : derr l e (sq k) = 0
    · rw [scanB_yes h]
      have := ih (l.drop (dn l e (sq k))) e (k + 1)
      have := (dn_fit h).1
      simp only [List.length_cons]
      omega
    · rw [scanB_no h]; exact Nat.le_refl _

/-- The frames of payloads, one behind the other. -/
def framesB (e : W32) : Nat → List (List UInt8) → List UInt8
  | _, [] => []
  | k, p :: ps => frameB e (sq k) p ++ framesB e (k + 1) ps
theorem framesB_snoc (e : W32) (ps : List (List UInt8)) : ∀ k p, framesB e k (ps ++ [p]) = framesB e k ps ++ frameB e (sq (k + ps.length)) p := by
  induction ps with
  | nil => intro k p; simp [framesB]
  | cons x ps ih =>
    intro k p
    show frameB e (sq k) x ++ framesB e (k + 1) (ps ++ [p]) = frameB e (sq k) x ++ framesB e (k + 1) ps ++ _
    rw [ih, List.append_assoc, List.length_cons, show k + 1 + ps.length = k + (ps.length + 1) by omega]
theorem framesB_le (e : W32) (ps : List (List UInt8)) (hp : ∀ p ∈ ps, p.length ≤ 1024) : ∀ k, (framesB e k ps).length ≤ 1038 * ps.length ∧ 14 * ps.length ≤ (framesB e k ps).length := by
  induction ps with
  | nil => intro k; simp [framesB]
  | cons x ps ih =>
    intro k
    have := ih (fun p h => hp p (List.mem_cons_of_mem _ h)) (k + 1)
    have := hp x List.mem_cons_self
    simp only [framesB, List.length_append, frameB_length, List.length_cons]
    omega
theorem scanB_frames (e : W32) (rest : List UInt8) (ps : List (List UInt8)) : ∀ (f k : Nat), ps.length ≤ f → (∀ p ∈ ps, p.length ≤ 1024) →
    scanB f (framesB e k ps ++ rest) e k = (ps ++ (scanB (f - ps.length) rest e (k + ps.length)).1, (framesB e k ps).length + (scanB (f - ps.length) rest e (k + ps.length)).2) := by
  induction ps with
  | nil => intro f k _ _; simp [framesB]
  | cons x ps ih =>
    intro f k hf hp
    match f, hf with
    | f + 1, hf =>
      have hx := hp x List.mem_cons_self
      have e1 : framesB e k (x :: ps) ++ rest = frameB e (sq k) x ++ (framesB e (k + 1) ps ++ rest) := by simp [framesB]
      have e2 : (frameB e (sq k) x ++ (framesB e (k + 1) ps ++ rest)).drop (14 + x.length) = framesB e (k + 1) ps ++ rest := List.drop_left' (frameB_length e (sq k) x)
      rw [e1, scanB_yes (derr_frame e (sq k) x _ hx), dpl_frame _ _ _ _ hx, dn_frame _ _ _ _ hx, e2, ih f (k + 1) (by simpa using hf) (fun p h => hp p (List.mem_cons_of_mem _ h))]
      have e3 : f + 1 - (x :: ps).length = f - ps.length := by simp
      have e4 : k + (x :: ps).length = k + 1 + ps.length := by simp; omega
      rw [e3, e4]
      simp only [framesB, List.length_append, frameB_length, List.cons_append]
      congr 1
      omega
theorem scanB_other (e e' : W32) (he : e ≠ e') (ps : List (List UInt8)) (f : Nat) (hp : ∀ p ∈ ps, p.length ≤ 1024) : scanB f (framesB e 0 ps) e' 0 = ([], 0) := by
  refine scanB_no ?_
  match ps, hp with
  | [], _ => rw [show framesB e 0 [] = [] from rfl, derr_1 (by decide)]; decide
  | x :: ps, hp =>
    show derr (frameB e (sq 0) x ++ framesB e 1 ps) e' (sq 0) ≠ 0
    rw [derr_other e e' (sq 0) x _ (hp x List.mem_cons_self) he]
    decide
theorem next_ne (e : W32) : e ≠ e + 1#32 := by
  intro h
  have := congrArg BitVec.toNat h
  rw [BitVec.toNat_add, show (1#32).toNat = 1 from rfl] at this
  have := e.isLt
  omega

/-- Whether one of the first k bits of the pattern was turned. -/
def anyHit (n a pat : Nat) : Nat → Bool
  | 0 => false
  | k + 1 => anyHit n a pat k || hits n a pat k
theorem anyHit_none {n a pat : Nat} (k : Nat) (h : anyHit n a pat k = false) : ∀ j < k, hits n a pat j = false := by
  induction k with
  | zero => intro j hj; omega
  | succ k ih =>
    intro j hj
    have h' : (anyHit n a pat k || hits n a pat k) = false := h
    rw [Bool.or_eq_false_iff] at h'
    by_cases hjk : j = k
    · subst hjk; exact h'.2
    · exact ih h'.1 j (by omega)
theorem anyHit_some {n a pat : Nat} (k : Nat) (h : anyHit n a pat k = true) : ∃ j < k, hits n a pat j = true := by
  induction k with
  | zero => cases h
  | succ k ih =>
    have h' : (anyHit n a pat k || hits n a pat k) = true := h
    rcases Bool.or_eq_true_iff.1 h' with h' | h'
    · obtain ⟨j, hj, h⟩ := ih h'; exact ⟨j, by omega, h⟩
    · exact ⟨k, by omega, h'⟩
theorem flips_none {l : List UInt8} {a pat : Nat} (h : anyHit l.length a pat 32 = false) : ∀ k, k ≤ 32 → flips l a pat k = l := by
  intro k
  induction k with
  | zero => intro _; rfl
  | succ k ih =>
    intro hk
    unfold flips
    rw [if_neg (by rw [anyHit_none 32 h k (by omega)]; simp), ih (by omega)]
theorem flips_some {l : List UInt8} {a pat : Nat} (h : anyHit l.length a pat 32 = true) : flips l a pat 32 ≠ l := by
  intro hf
  obtain ⟨j, hj, hh⟩ := anyHit_some 32 h
  have hu := upd_flips l a pat 0#32 32 (Nat.le_refl _)
  rw [hf] at hu
  have h0 : stepN (8 * l.length - a) (turned l.length a pat 32) = 0#32 := by
    have := congrArg (crcU 0#32 l ^^^ ·) hu.symm
    simpa [← BitVec.xor_assoc] using this
  have ht := turned_bit l.length a pat 32 j hj (Nat.le_refl _)
  rw [stepN_inj0 _ h0, hh] at ht
  simp [hj] at ht
theorem flips_getD (l : List UInt8) (a pat : Nat) (i : Nat) (hi : i < a / 8) : ∀ k, (flips l a pat k).getD i 0 = l.getD i 0 := by
  intro k
  induction k with
  | zero => rfl
  | succ k ih =>
    unfold flips
    split
    · rw [← ih]
      unfold flipBit
      simp only [List.getD_eq_getElem?_getD]
      rw [List.getElem?_set_ne (by omega)]
    · exact ih
/-- A frame of which some bits within 32 consecutive ones are changed, but not the length. -/
theorem derr_burst (e q : W32) (pl : List UInt8) (a pat : Nat) (hp : pl.length ≤ 1024) (ha : 16 ≤ a) (h : anyHit (frameB e q pl).length a pat 32 = true) : derr (flips (frameB e q pl) a pat 32) e q = 7 := by
  have hlen : lenB (flips (frameB e q pl) a pat 32) = pl.length := by
    have h0 := (frame_parts e q pl [] hp).1
    rw [List.append_nil] at h0
    rw [← h0]
    unfold lenB
    rw [flips_getD _ _ _ 0 (by omega), flips_getD _ _ _ 1 (by omega)]
  have hl : (flips (frameB e q pl) a pat 32).length = 14 + pl.length := by rw [flips_length, frameB_length]
  have hne := flips_some h
  obtain ⟨F, hF⟩ : ∃ F, F = flips (frameB e q pl) a pat 32 := ⟨_, rfl⟩
  rw [← hF] at hlen hl hne ⊢
  refine derr_4 (by omega) (by omega) (by omega) ?_
  rw [hlen]
  have hd : (F.drop (10 + pl.length)).length = 4 := by simp; omega
  match hx : F.drop (10 + pl.length), hd with
  | [w0, w1, w2, w3], _ =>
    intro hw
    have hcut : flips (bodyB e q pl ++ fixedB (crcSum (bodyB e q pl))) a pat 32 = F.take (10 + pl.length) ++ [w0, w1, w2, w3] := by
      rw [← hx, List.take_append_drop, hF]; rfl
    have hb := (burst_word (bodyB e q pl) a pat (F.take (10 + pl.length)) w0 w1 w2 w3 hcut).1 hw.symm
    exact hne (by rw [hF]; exact hb)

end Go.Proofs.Ytdahnkampjkelaa
