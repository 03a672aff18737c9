/-
URLs in plain words: what parsing answers, the text, the upgrade, and their laws. No program.
-/
import Derived.Test.YtdfacgncphmcoaaGreatDoorC04
namespace Go.Proofs.YtdfacgncphmcoaaGreatDoor
section
open Go.RowKit
/-- A URL. -/
structure Uv where
  scheme : List UInt8
  user : List UInt8
  host : Hv
  port : Int
  rest : List UInt8
def uv0 : Uv := ⟨[], [], hv0, 0, []⟩
def sHttp : List UInt8 := [104, 116, 116, 112]
def sHttps : List UInt8 := [104, 116, 116, 112, 115]
def sWs : List UInt8 := [119, 115]
def sWss : List UInt8 := [119, 115, 115]
def insL (s : List UInt8) : Bool := s == sHttp || s == sWs
def stdP (s : List UInt8) : Int := if insL s = true then 80 else if (s == sHttps || s == sWss) = true then 443 else -1
def specL (s : List UInt8) : Bool := insL s || s == sHttps || s == sWss
def secL (s : List UInt8) : List UInt8 := if s == sHttp then sHttps else sWss
def exclB (b : UInt8) : Bool := decide (b.toNat ≤ 32) || b == 127
def letB (b : UInt8) : Bool := (decide (97 ≤ b.toNat) && decide (b.toNat ≤ 122)) || (decide (65 ≤ b.toNat) && decide (b.toNat ≤ 90))
def folB (b : UInt8) : Bool := (decide (48 ≤ b.toNat) && decide (b.toNat ≤ 57)) || b == 43 || b == 45 || b == 46
def schL : List UInt8 → Bool
  | [] => false
  | b :: r => letB b && r.all fun c => letB c || folB c
def endA (b : UInt8) : Bool := b == 47 || b == 63 || b == 35
def userL (l : List UInt8) : List UInt8 := ((fromL (isB 64) l.reverse).drop 1).reverse
def addrL (l : List UInt8) : List UInt8 := (befL (isB 64) l.reverse).reverse
def portP (d : List UInt8) (std : Int) : Option Int :=
  if d = [] then some (-1) else if d.all digitU = true then (if 65535 < valB 10 0 d then none else if (valB 10 0 d : Int) = std then some (-1) else some (valB 10 0 d : Int)) else none
def cutB (a : List UInt8) : Option (List UInt8 × List UInt8) := match fromL (isB 93) a with
  | [] => none
  | _ :: [] => some (befL (isB 93) a ++ [93], [])
  | _ :: c :: d => if c = 58 then some (befL (isB 93) a ++ [93], d) else none
def cutP (a : List UInt8) : Option (List UInt8 × List UInt8) := if a.head? = some 91 then cutB a else some (befL (isB 58) a, (fromL (isB 58) a).drop 1)
def restP (r : List UInt8) : List UInt8 := if r.head? = some 47 then r else 47 :: r
def hostP (sch user rest n d : List UInt8) : Nat × Uv :=
  if (parseH n).1 = 0 then (match portP d (stdP sch) with
    | none => (16, uv0)
    | some p => (0, ⟨sch, user, (parseH n).2, p, restP rest⟩))
  else ((parseH n).1, uv0)
def authP (sch auth rest : List UInt8) : Nat × Uv := match cutP (addrL auth) with
  | none => (4, uv0)
  | some q => hostP sch (userL auth) rest q.1 q.2
def specP (sch r : List UInt8) : Nat × Uv := if r.take 2 = [47, 47] then authP sch (befL endA (r.drop 2)) (fromL endA (r.drop 2)) else (4, uv0)
def parseU (l : List UInt8) : Nat × Uv :=
  if l.any exclB = true then (4, uv0)
  else if (l.any (isB 58) && schL (befL (isB 58) l)) = true then
    (if specL (lowL (befL (isB 58) l)) = true then specP (lowL (befL (isB 58) l)) ((fromL (isB 58) l).drop 1) else (0, ⟨lowL (befL (isB 58) l), [], hv0, -1, (fromL (isB 58) l).drop 1⟩))
  else (15, uv0)
def parseUL (l : List UInt8) : Nat × Uv := if 2048 < l.length then (3, uv0) else parseU l
def userT (s : List UInt8) : List UInt8 := if s = [] then [] else s ++ [64]
def portT (p : Int) : List UInt8 := if p = -1 then [] else 58 :: Lib.decDigits p.toNat
def textU (u : Uv) : List UInt8 := if specL u.scheme = true then u.scheme ++ 58 :: 47 :: 47 :: (userT u.user ++ (fmtH u.host ++ portT u.port) ++ u.rest) else u.scheme ++ 58 :: u.rest
def upU (u : Uv) : Uv := if insL u.scheme = true then ⟨secL u.scheme, u.user, u.host, if u.port = 443 then -1 else u.port, u.rest⟩ else u
/-! ### cutting -/
/-- The last at sign. -/
theorem at_none {l : List UInt8} (h : 64 ∉ l) : userL l = [] ∧ addrL l = l := by
  have hh : ∀ b ∈ l.reverse, isB 64 b = false := by
    intro b hb
    have : b ≠ 64 := fun e => h (by rw [← e]; exact List.mem_reverse.1 hb)
    simpa [isB] using this
  obtain ⟨h1, h2⟩ := bef_nil hh
  unfold userL addrL
  rw [h1, h2]
  simp
theorem at_some {u a : List UInt8} (h : 64 ∉ a) : userL (u ++ 64 :: a) = u ∧ addrL (u ++ 64 :: a) = a := by
  have hh : ∀ b ∈ a.reverse, isB 64 b = false := by
    intro b hb
    have : b ≠ 64 := fun e => h (by rw [← e]; exact List.mem_reverse.1 hb)
    simpa [isB] using this
  have e : (u ++ 64 :: a).reverse = a.reverse ++ 64 :: u.reverse := by simp
  obtain ⟨h1, h2⟩ := bef_app hh (b := 64 :: u.reverse) 64 u.reverse rfl (by simp [isB])
  unfold userL addrL
  rw [e, h1, h2]
  simp
theorem at_cases (l : List UInt8) : (64 ∉ l ∧ userL l = [] ∧ addrL l = l) ∨ (l = userL l ++ 64 :: addrL l ∧ 64 ∉ addrL l) := by
  have h1 := bef_from (isB 64) l.reverse
  have h2 : 64 ∉ addrL l := by
    unfold addrL
    rw [List.mem_reverse]
    intro hm
    have := bef_not (isB 64) l.reverse 64 hm
    simp [isB] at this
  cases hf : fromL (isB 64) l.reverse with
  | nil =>
    left
    rw [hf, List.append_nil] at h1
    have e : addrL l = l := by unfold addrL; rw [h1, List.reverse_reverse]
    rw [e] at h2
    exact ⟨h2, (at_none h2).1, e⟩
  | cons b r =>
    right
    have hb : b = 64 := by simpa [isB] using from_head (isB 64) _ b r hf
    have e : l = userL l ++ 64 :: addrL l := by
      unfold userL addrL
      rw [hf, List.drop_succ_cons, List.drop_zero]
      have := congrArg List.reverse h1
      rw [hf, hb, List.reverse_reverse] at this
      exact this.symm.trans (by simp)
    exact ⟨e, h2⟩
/-! ### kinds of bytes -/
theorem let_not (b : UInt8) (h : (letB b || folB b) = true) : exclB b = false ∧ isB 58 b = false ∧ endA b = false := by
  have key : ∀ n : Fin 256, (letB (UInt8.ofNat n.val) || folB (UInt8.ofNat n.val)) = true → exclB (UInt8.ofNat n.val) = false ∧ isB 58 (UInt8.ofNat n.val) = false ∧ endA (UInt8.ofNat n.val) = false := by decide +kernel
  have := key ⟨b.toNat, b.toNat_lt⟩
  simp only [UInt8.ofNat_toNat] at this
  exact this h
theorem let_low (b : UInt8) : letB (lowU b) = letB b ∧ folB (lowU b) = folB b ∧ exclB (lowU b) = exclB b ∧ isB 58 (lowU b) = isB 58 b := by
  have key : ∀ n : Fin 256, letB (lowU (UInt8.ofNat n.val)) = letB (UInt8.ofNat n.val) ∧ folB (lowU (UInt8.ofNat n.val)) = folB (UInt8.ofNat n.val) ∧ exclB (lowU (UInt8.ofNat n.val)) = exclB (UInt8.ofNat n.val) ∧ isB 58 (lowU (UInt8.ofNat n.val)) = isB 58 (UInt8.ofNat n.val) := by decide +kernel
  have := key ⟨b.toNat, b.toNat_lt⟩
  simp only [UInt8.ofNat_toNat] at this
  exact this
theorem sch_all {s : List UInt8} (h : schL s = true) : ∀ b ∈ s, (letB b || folB b) = true := by
  cases s with
  | nil => cases h
  | cons a r =>
    unfold schL at h
    rw [Bool.and_eq_true, List.all_eq_true] at h
    intro b hb
    rcases List.mem_cons.1 hb with rfl | hb
    · rw [h.1]; rfl
    · exact h.2 b hb
theorem sch_low (s : List UInt8) : schL (lowL s) = schL s := by
  cases s with
  | nil => rfl
  | cons a r =>
    show (letB (lowU a) && (r.map lowU).all _) = _
    rw [List.all_map, (let_low a).1]
    unfold schL
    congr 2
    funext c
    show (letB (lowU c) || folB (lowU c)) = _
    rw [(let_low c).1, (let_low c).2.1]
def hosB (b : UInt8) : Prop := exclB b = false ∧ endA b = false ∧ b ≠ 64
instance (b : UInt8) : Decidable (hosB b) := by unfold hosB; infer_instance
theorem okN_hos (b : UInt8) (h : okN b.toNat = true) : hosB b ∧ b ≠ 58 ∧ b ≠ 91 ∧ b ≠ 93 := by
  have key : ∀ n : Fin 256, okN (UInt8.ofNat n.val).toNat = true → (exclB (UInt8.ofNat n.val) = false ∧ endA (UInt8.ofNat n.val) = false ∧ UInt8.ofNat n.val ≠ 64) ∧ UInt8.ofNat n.val ≠ 58 ∧ UInt8.ofNat n.val ≠ 91 ∧ UInt8.ofNat n.val ≠ 93 := by decide +kernel
  have := key ⟨b.toNat, b.toNat_lt⟩
  simp only [UInt8.ofNat_toNat] at this
  exact this h
theorem dig_hos (b : UInt8) (h : 48 ≤ b.toNat ∧ b.toNat ≤ 57) : hosB b ∧ b ≠ 58 ∧ b ≠ 91 ∧ b ≠ 93 := by
  refine okN_hos b ?_
  unfold okN
  rw [decide_eq_true h.1, decide_eq_true h.2]
  simp
theorem hexc_hos : ∀ d : Fin 16, (exclB (hexc d.val) = false ∧ endA (hexc d.val) = false ∧ hexc d.val ≠ 64) ∧ hexc d.val ≠ 93 := by decide +kernel
theorem fmt6_bytes {g : List Nat} (hg : G16 g) : ∀ b ∈ fmt6 g, hosB b ∧ b ≠ 93 := by
  have h58 : hosB 58 ∧ (58 : UInt8) ≠ 93 := ⟨⟨by decide, by decide, by decide⟩, by decide⟩
  have hj : ∀ P : List Nat, G16 P → ∀ b ∈ joinL 58 (P.map hexT), hosB b ∧ b ≠ 93 := by
    intro P hP b hb
    rcases mem_joinL 58 _ b hb with rfl | ⟨x, hx, hb⟩
    · exact h58
    · obtain ⟨v, hv, rfl⟩ := List.mem_map.1 hx
      have hv := hP v hv
      have := digs_all (b := 16) (by omega) (by omega) (fun c => decide (hosB c ∧ c ≠ 93)) (fun d hd => by
        have h := hexc_hos ⟨d, hd⟩
        exact decide_eq_true h) v (by omega)
      exact of_decide_eq_true (List.all_eq_true.1 this b hb)
  intro b hb
  unfold fmt6 txt6 at hb
  split at hb
  · exact hj _ (hg.take _) b hb
  · rcases List.mem_append.1 hb with hb | hb
    · exact hj _ (hg.take _) b hb
    · rcases List.mem_cons.1 hb with rfl | hb
      · exact h58
      rcases List.mem_cons.1 hb with rfl | hb
      · exact h58
      · exact hj _ ((hg.take _).drop _) b hb
/-- The text of a valid host: no byte that ends it elsewhere. -/
theorem fmtH_bytes {h : Hv} (hw : h.Wf) (hv : validH h = true) : (∀ b ∈ fmtH h, hosB b) ∧ fmtH h ≠ [] ∧ (((fmtH h).head? ≠ some 91 ∧ ∀ b ∈ fmtH h, b ≠ 58) ∨ ∃ x, fmtH h = 91 :: (x ++ [93]) ∧ ∀ b ∈ x, b ≠ 93) := by
  unfold fmtH
  rw [if_pos hv]
  rcases valid_kinds hv with ⟨hn, he⟩ | he | he
  · have hk : h.kind = 1 := by rw [he]; rfl
    unfold fmtT
    rw [if_pos hk]
    have hb : ∀ b ∈ h.name, hosB b ∧ b ≠ 58 ∧ b ≠ 91 := by
      intro b hb
      rcases hn.bytes b hb with rfl | hb
      · exact ⟨⟨by decide, by decide, by decide⟩, by decide, by decide⟩
      · exact ⟨(okN_hos b hb).1, (okN_hos b hb).2.1, (okN_hos b hb).2.2.1⟩
    refine ⟨fun b h => (hb b h).1, hn.ne, .inl ⟨?_, fun b h => (hb b h).2.1⟩⟩
    intro hh
    cases hnm : h.name with
    | nil => exact hn.ne hnm
    | cons a r =>
      rw [hnm] at hh
      injection hh with hh
      exact (hb a (by rw [hnm]; simp)).2.2 hh
  · have hk : h.kind = 2 := by rw [he]; rfl
    unfold fmtT
    rw [if_neg (by omega), if_pos hk]
    have hb : ∀ b ∈ fmtI h.v4, hosB b ∧ b ≠ 58 ∧ b ≠ 91 := by
      intro b hb
      rcases fmtI_bytes h.v4 b hb with rfl | hb
      · exact ⟨⟨by decide, by decide, by decide⟩, by decide, by decide⟩
      · exact ⟨(dig_hos b hb).1, (dig_hos b hb).2.1, (dig_hos b hb).2.2.1⟩
    have hne : fmtI h.v4 ≠ [] := by
      unfold fmtI
      intro e
      have := congrArg List.length e
      simp [joinL] at this
    refine ⟨fun b h => (hb b h).1, hne, .inl ⟨?_, fun b h => (hb b h).2.1⟩⟩
    intro hh
    cases hnm : fmtI h.v4 with
    | nil => exact hne hnm
    | cons a r =>
      rw [hnm] at hh
      injection hh with hh
      exact (hb a (by rw [hnm]; simp)).2.2 hh
  · have hk : h.kind = 3 := by rw [he]; rfl
    unfold fmtT
    rw [if_neg (by omega), if_neg (by omega)]
    have hb := fmt6_bytes hw.2.2
    refine ⟨?_, by simp, .inr ⟨fmt6 h.v6, rfl, fun b h => (hb b h).2⟩⟩
    intro b h9
    rcases List.mem_cons.1 h9 with rfl | h9
    · exact ⟨by decide, by decide, by decide⟩
    rcases List.mem_append.1 h9 with h9 | h9
    · exact (hb b h9).1
    · simp at h9
      subst h9
      exact ⟨by decide, by decide, by decide⟩
/-! ### what is parsed is good -/
structure UGood (u : Uv) : Prop where
  sch : schL u.scheme = true
  low : lowL u.scheme = u.scheme
  exu : ∀ b ∈ u.user, exclB b = false
  exr : ∀ b ∈ u.rest, exclB b = false
  wf : u.host.Wf
  spec : specL u.scheme = true → validH u.host = true ∧ (∀ b ∈ u.user, endA b = false) ∧ u.rest.head? = some 47 ∧ (u.port = -1 ∨ (0 ≤ u.port ∧ u.port ≤ 65535 ∧ u.port ≠ stdP u.scheme))
  plain : specL u.scheme = false → u.user = [] ∧ u.host = hv0 ∧ u.port = -1
theorem portP_range {d : List UInt8} {std p : Int} (h : portP d std = some p) : p = -1 ∨ (0 ≤ p ∧ p ≤ 65535 ∧ p ≠ std) := by
  unfold portP at h
  split at h
  · injection h with h
    exact .inl h.symm
  · split at h
    · split at h
      · cases h
      · rename_i h1
        split at h
        · injection h with h
          exact .inl h.symm
        · rename_i h2
          injection h with h
          subst h
          exact .inr ⟨by omega, by omega, h2⟩
    · cases h
theorem parse_hostgood {sch user rest n d : List UInt8} {u : Uv} (h : hostP sch user rest n d = (0, u)) (hs : schL sch = true) (hl : lowL sch = sch) (hsp : specL sch = true) (hu : ∀ b ∈ user, exclB b = false ∧ endA b = false) (hr : ∀ b ∈ rest, exclB b = false) : UGood u := by
  unfold hostP at h
  split at h
  · rename_i h0
    split at h
    · cases h
    · rename_i p hp
      obtain ⟨_, rfl⟩ := Prod.mk.inj h
      obtain ⟨hw, hv⟩ := parse_valid n
      have hvv : validH (parseH n).2 = true := by
        rcases hv with ⟨_, hv⟩ | ⟨hv, _⟩
        · exact hv
        · exact absurd h0 hv
      refine ⟨hs, hl, fun b hb => (hu b hb).1, ?_, hw, fun _ => ⟨hvv, fun b hb => (hu b hb).2, ?_, portP_range hp⟩, fun h => ?_⟩
      · intro b hb
        simp only [restP] at hb
        split at hb
        · exact hr b hb
        · rcases List.mem_cons.1 hb with rfl | hb
          · decide
          · exact hr b hb
      · simp only [restP]
        split
        · rename_i h; exact h
        · rfl
      · rw [show (Uv.mk sch user (parseH n).2 p (restP rest)).scheme = sch from rfl, hsp] at h
        cases h
  · rename_i h0
    exact absurd (Prod.mk.inj h).1 h0
theorem mem_user {l : List UInt8} {b : UInt8} (h : b ∈ userL l) : b ∈ l := by
  rcases at_cases l with ⟨_, h1, _⟩ | ⟨h1, _⟩
  · rw [h1] at h; cases h
  · rw [h1]; exact List.mem_append_left _ h
theorem parse_good {l : List UInt8} {u : Uv} (h : parseU l = (0, u)) : UGood u := by
  unfold parseU at h
  split at h
  · cases h
  rename_i hx
  have hx : ∀ b ∈ l, exclB b = false := any_none (by simpa using hx)
  split at h
  · rename_i hs
    rw [Bool.and_eq_true] at hs
    have h1 := hs.2
    rw [← sch_low] at h1
    split at h
    · rename_i hsp
      unfold specP at h
      split at h
      · unfold authP at h
        split at h
        · cases h
        · refine parse_hostgood h h1 (lowL_lowL _) hsp ?_ ?_
          · intro b hb
            have hb := mem_user hb
            exact ⟨hx b (mem_from (List.mem_of_mem_drop (List.mem_of_mem_drop (mem_bef hb)))), bef_not endA _ b hb⟩
          · intro b hb
            exact hx b (mem_from (List.mem_of_mem_drop (List.mem_of_mem_drop (mem_from hb))))
      · cases h
    · rename_i hsp
      obtain ⟨_, rfl⟩ := Prod.mk.inj h
      refine ⟨h1, lowL_lowL _, (fun b hb => by cases hb), ?_, hv0_wf, fun h => absurd h hsp, fun _ => ⟨rfl, rfl, rfl⟩⟩
      intro b hb
      exact hx b (mem_from (List.mem_of_mem_drop hb))
  · cases h
/-! ### good URLs are read back -/
theorem port_back {p std : Int} (h : p = -1 ∨ (0 ≤ p ∧ p ≤ 65535 ∧ p ≠ std)) : portP ((portT p).drop 1) std = some p := by
  unfold portT
  split
  · rename_i h1
    subst h1
    rfl
  · rename_i h1
    rcases h with h | ⟨h2, h3, h4⟩
    · exact absurd h h1
    rw [List.drop_succ_cons, List.drop_zero]
    unfold portP
    have e : (p.toNat : Int) = p := by omega
    rw [if_neg (dec_ne _), if_pos (dec_digits _), dec_valB, if_neg (by omega), e, if_neg h4]
theorem cutP_back {x : List UInt8} {p : Int} (h : (x.head? ≠ some 91 ∧ ∀ b ∈ x, b ≠ 58) ∨ ∃ y, x = 91 :: (y ++ [93]) ∧ ∀ b ∈ y, b ≠ 93) (hne : x ≠ []) : cutP (x ++ portT p) = some (x, (portT p).drop 1) := by
  unfold cutP
  rcases h with ⟨h1, h2⟩ | ⟨y, rfl, h2⟩
  · have hh : (x ++ portT p).head? ≠ some 91 := by
      cases x with
      | nil => exact absurd rfl hne
      | cons a r => exact h1
    rw [if_neg hh]
    have h3 : ∀ b ∈ x, isB 58 b = false := fun b hb => by simpa [isB] using h2 b hb
    unfold portT
    split
    · rw [List.append_nil, (bef_nil h3).1, (bef_nil h3).2]
    · obtain ⟨e1, e2⟩ := bef_app h3 (b := 58 :: Lib.decDigits p.toNat) 58 _ rfl (by simp [isB])
      rw [e1, e2]
  · rw [if_pos (by rfl)]
    unfold cutB
    have e : 91 :: (y ++ [93]) ++ portT p = (91 :: y) ++ 93 :: portT p := by simp
    have h3 : ∀ b ∈ 91 :: y, isB 93 b = false := by
      intro b hb
      rcases List.mem_cons.1 hb with rfl | hb
      · decide
      · simpa [isB] using h2 b hb
    obtain ⟨e1, e2⟩ := bef_app h3 (b := 93 :: portT p) 93 _ rfl (by simp [isB])
    rw [e, e1, e2]
    by_cases hp : p = -1
    · rw [show portT p = [] by unfold portT; rw [if_pos hp]]
      rfl
    · rw [show portT p = 58 :: Lib.decDigits p.toNat by unfold portT; rw [if_neg hp]]
      rfl
theorem good_parse {u : Uv} (h : UGood u) : parseU (textU u) = (0, u) := by
  obtain ⟨sch, user, host, port, rest⟩ := u
  have hs := sch_all h.sch
  have h58 : ∀ b ∈ sch, isB 58 b = false := fun b hb => (let_not b (hs b hb)).2.1
  have hxs : ∀ b ∈ sch, exclB b = false := fun b hb => (let_not b (hs b hb)).1
  cases hsp : specL sch with
  | true =>
    obtain ⟨hv, hu, hr, hp⟩ := h.spec hsp
    have hw := h.wf
    have hxu := h.exu
    have hxr := h.exr
    have hsc := h.sch
    have hlo := h.low
    simp only at hv hu hr hp hw hxu hxr hsc hlo
    obtain ⟨hb, hne, hc⟩ := fmtH_bytes hw hv
    have hpt : ∀ b ∈ portT port, hosB b := by
      unfold portT
      split
      · intro b hb; cases hb
      · intro b hb
        rcases List.mem_cons.1 hb with rfl | hb
        · exact ⟨by decide, by decide, by decide⟩
        · exact (dig_hos b (dec_byte _ b hb)).1
    have hA : ∀ b ∈ fmtH host ++ portT port, hosB b := fun b hb' => by
      rcases List.mem_append.1 hb' with h | h
      · exact hb b h
      · exact hpt b h
    obtain ⟨a, ha⟩ : ∃ a, a = fmtH host ++ portT port := ⟨_, rfl⟩
    have et : textU ⟨sch, user, host, port, rest⟩ = sch ++ 58 :: 47 :: 47 :: (userT user ++ a ++ rest) := by
      unfold textU
      rw [if_pos hsp, ha]
    have hU : ∀ b ∈ userT user, exclB b = false ∧ endA b = false := by
      unfold userT
      split
      · intro b hb; cases hb
      · intro b hb
        rcases List.mem_append.1 hb with h | h
        · exact ⟨hxu b h, hu b h⟩
        · simp at h
          subst h
          exact ⟨by decide, by decide⟩
    rw [et]
    have hE : (sch ++ 58 :: 47 :: 47 :: (userT user ++ a ++ rest)).any exclB = false := by
      refine none_any fun b hb => ?_
      rcases List.mem_append.1 hb with h | h
      · exact hxs b h
      rcases List.mem_cons.1 h with rfl | h
      · decide
      rcases List.mem_cons.1 h with rfl | h
      · decide
      rcases List.mem_cons.1 h with rfl | h
      · decide
      rcases List.mem_append.1 h with h | h
      · rcases List.mem_append.1 h with h | h
        · exact (hU b h).1
        · rw [ha] at h; exact (hA b h).1
      · exact hxr b h
    unfold parseU
    rw [if_neg (by rw [hE]; simp)]
    obtain ⟨e1, e2⟩ := bef_app h58 (b := 58 :: 47 :: 47 :: (userT user ++ a ++ rest)) 58 _ rfl (by decide)
    rw [e1, e2, if_pos (by rw [Bool.and_eq_true]; exact ⟨any_isB.2 (by simp), hsc⟩), hlo, if_pos hsp]
    unfold specP
    rw [if_pos (by rfl)]
    have hend : ∀ b ∈ userT user ++ a, endA b = false := fun b hb => by
      rcases List.mem_append.1 hb with h | h
      · exact (hU b h).2
      · rw [ha] at h; exact (hA b h).2.1
    have hrc : ∃ r, rest = 47 :: r := by
      cases rest with
      | nil => cases hr
      | cons c r =>
        injection hr with hr
        exact ⟨r, by rw [hr]⟩
    obtain ⟨r, hrr⟩ := hrc
    obtain ⟨e3, e4⟩ := bef_app hend (b := rest) 47 r hrr (by decide)
    rw [show (List.drop 1 (58 :: 47 :: 47 :: (userT user ++ a ++ rest))).drop 2 = userT user ++ a ++ rest from rfl, e3, e4]
    have h64 : 64 ∉ a := fun hm => by rw [ha] at hm; exact (hA 64 hm).2.2 rfl
    have eU : userL (userT user ++ a) = user ∧ addrL (userT user ++ a) = a := by
      unfold userT
      split
      · rename_i h0
        rw [List.nil_append, h0]
        exact at_none h64
      · rw [List.append_assoc]
        exact at_some h64
    unfold authP
    rw [eU.1, eU.2, ha, cutP_back hc hne]
    simp only
    unfold hostP
    rw [parse_fmt hw hv (by have : (fmt6 host.v6).length ≤ 82 := txt6_len host.v6 hw.2.2 _ _ 8 (Nat.le_refl _); omega), port_back hp]
    simp only [if_true]
    have : restP rest = rest := by unfold restP; rw [if_pos hr]
    rw [this]
  | false =>
    obtain ⟨h1, h2, h3⟩ := h.plain hsp
    have hxr := h.exr
    have hsc := h.sch
    have hlo := h.low
    simp only at h1 h2 h3 hxr hsc hlo
    have et : textU ⟨sch, user, host, port, rest⟩ = sch ++ 58 :: rest := by
      unfold textU
      rw [if_neg (by rw [hsp]; simp)]
    rw [et]
    have hE : (sch ++ 58 :: rest).any exclB = false := by
      refine none_any fun b hb => ?_
      rcases List.mem_append.1 hb with h | h
      · exact hxs b h
      rcases List.mem_cons.1 h with rfl | h
      · decide
      · exact hxr b h
    unfold parseU
    rw [if_neg (by rw [hE]; simp)]
    obtain ⟨e1, e2⟩ := bef_app h58 (b := 58 :: rest) 58 _ rfl (by decide)
    rw [e1, e2, if_pos (by rw [Bool.and_eq_true]; exact ⟨any_isB.2 (by simp), hsc⟩), hlo, if_neg (by rw [hsp]; simp), h1, h2, h3]
    rfl
/-! ### upgrades -/
theorem ins_cases {s : List UInt8} (h : insL s = true) : s = sHttp ∨ s = sWs := by
  unfold insL at h
  simpa using h
theorem sec_facts : ∀ s, insL s = true → schL (secL s) = true ∧ lowL (secL s) = secL s ∧ specL s = true ∧ specL (secL s) = true ∧ insL (secL s) = false ∧ stdP (secL s) = 443 ∧ stdP s = 80 := by
  intro s h
  rcases ins_cases h with rfl | rfl <;> decide +kernel
theorem good_up {u : Uv} (h : UGood u) : UGood (upU u) := by
  unfold upU
  split
  · rename_i hi
    obtain ⟨f1, f2, f3, f4, f5, f6, f7⟩ := sec_facts u.scheme hi
    obtain ⟨g1, g2, g3, g4⟩ := h.spec f3
    refine ⟨f1, f2, h.exu, h.exr, h.wf, fun _ => ⟨g1, g2, g3, ?_⟩, fun h9 => ?_⟩
    · show (if u.port = 443 then -1 else u.port) = -1 ∨ (0 ≤ (if u.port = 443 then -1 else u.port) ∧ (if u.port = 443 then -1 else u.port) ≤ 65535 ∧ (if u.port = 443 then -1 else u.port) ≠ stdP (secL u.scheme))
      rw [f6]
      split
      · exact .inl rfl
      · rename_i hp
        rcases g4 with g4 | g4
        · exact .inl g4
        · exact .inr ⟨g4.1, g4.2.1, hp⟩
    · rw [show (Uv.mk (secL u.scheme) u.user u.host (if u.port = 443 then -1 else u.port) u.rest).scheme = secL u.scheme from rfl, f4] at h9
      cases h9
  · exact h
theorem up_up (u : Uv) : upU (upU u) = upU u := by
  by_cases hi : insL u.scheme = true
  · have f5 := (sec_facts u.scheme hi).2.2.2.2.1
    have e : upU u = ⟨secL u.scheme, u.user, u.host, if u.port = 443 then -1 else u.port, u.rest⟩ := by unfold upU; rw [if_pos hi]
    rw [e]
    unfold upU
    rw [if_neg (by rw [f5]; simp)]
  · have e : upU u = u := by unfold upU; rw [if_neg hi]
    rw [e, e]
/-! ### the scheme's letters -/
theorem low_any (p : UInt8 → Bool) (hp : ∀ b, p (lowU b) = p b) (l : List UInt8) : (lowL l).any p = l.any p := by
  unfold lowL
  rw [List.any_map]
  congr 1
  funext b
  exact hp b
/-- Small letters in front of the first colon change nothing. -/
theorem parse_low (l : List UInt8) : parseU (lowL (befL (isB 58) l) ++ fromL (isB 58) l) = parseU l := by
  have h1 := bef_from (isB 58) l
  obtain ⟨a, ha⟩ : ∃ a, a = befL (isB 58) l := ⟨_, rfl⟩
  obtain ⟨r, hr⟩ : ∃ r, r = fromL (isB 58) l := ⟨_, rfl⟩
  have h58 : ∀ b ∈ a, isB 58 b = false := by rw [ha]; exact bef_not _ l
  have h58' : ∀ b ∈ lowL a, isB 58 b = false := by
    intro b hb
    obtain ⟨c, hc, rfl⟩ := List.mem_map.1 hb
    rw [(let_low c).2.2.2]
    exact h58 c hc
  have hB : befL (isB 58) (lowL a ++ r) = lowL a ∧ fromL (isB 58) (lowL a ++ r) = r := by
    cases hr' : r with
    | nil => rw [List.append_nil]; exact bef_nil h58'
    | cons c t =>
      refine bef_app h58' c t rfl ?_
      exact from_head (isB 58) l c t (by rw [← hr, hr'])
  rw [← ha, ← hr]
  have hx : (lowL a ++ r).any exclB = l.any exclB := by
    rw [← h1, ← ha, ← hr, List.any_append, List.any_append, low_any exclB (fun b => (let_low b).2.2.1)]
  have hc : (lowL a ++ r).any (isB 58) = l.any (isB 58) := by
    rw [← h1, ← ha, ← hr, List.any_append, List.any_append, low_any (isB 58) (fun b => (let_low b).2.2.2)]
  unfold parseU
  rw [hx, hc, hB.1, hB.2, lowL_lowL, sch_low, ← ha, ← hr]
end

end Go.Proofs.YtdfacgncphmcoaaGreatDoor
