/-
URLs in plain words: what parsing answers, the text, the upgrade, and their laws. No program.
-/
import Derived.Test.YtekaljeicfjkjaaGreatDoorJ04
namespace Go.Proofs.YtekaljeicfjkjaaGreatDoor
section
open Go.RowKit
set_option maxHeartbeats 16000000
structure Uv where
 scheme : List UInt8
 user : List UInt8
 host : Hv
 port : Int
 rest : List UInt8
def uv0 : Uv := ⟨[], [], hv0, 0, []⟩
def z50 : List UInt8 := [104, 116, 116, 112]
def z51 : List UInt8 := [104, 116, 116, 112, 115]
def sWs : List UInt8 := [119, 115]
def z52 : List UInt8 := [119, 115, 115]
def z53 (s : List UInt8) : Bool := s == z50 || s == sWs
def z54 (s : List UInt8) : Int := if z53 s = true then 80 else if (s == z51 || s == z52) = true then 443 else -1
def z55 (s : List UInt8) : Bool := z53 s || s == z51 || s == z52
def z56 (s : List UInt8) : List UInt8 := if s == z50 then z51 else z52
def z57 (b : UInt8) : Bool := decide (b.toNat <= 32) || b == 127
def z58 (b : UInt8) : Bool := (decide (97 <= b.toNat) && decide (b.toNat <= 122)) || (decide (65 <= b.toNat) && decide (b.toNat <= 90))
def z59 (b : UInt8) : Bool := (decide (48 <= b.toNat) && decide (b.toNat <= 57)) || b == 43 || b == 45 || b == 46
def z6a : List UInt8 -> Bool
 | [] => false
 | b :: r => z58 b && r.all fun c => z58 c || z59 c
def z6b (b : UInt8) : Bool := b == 47 || b == 63 || b == 35
def z6c (l : List UInt8) : List UInt8 := ((zcy (isB 64) l.reverse).drop 1).reverse
def z6d (l : List UInt8) : List UInt8 := (zcx (isB 64) l.reverse).reverse
def z6e (d : List UInt8) (std : Int) : Option Int :=
 if d = [] then some (-1) else if d.all zbe = true then (if 65535 < zpi 10 0 d then none else if (zpi 10 0 d : Int) = std then some (-1) else some (zpi 10 0 d : Int)) else none
def z6f (a : List UInt8) : Option (List UInt8 × List UInt8) := match zcy (isB 93) a with
 | [] => none
 | _ :: [] => some (zcx (isB 93) a ++ [93], [])
 | _ :: c :: d => if c = 58 then some (zcx (isB 93) a ++ [93], d) else none
def z6g (a : List UInt8) : Option (List UInt8 × List UInt8) := if a.head? = some 91 then z6f a else some (zcx (isB 58) a, (zcy (isB 58) a).drop 1)
def z6h (r : List UInt8) : List UInt8 := if r.head? = some 47 then r else 47 :: r
def z6i (sch user rest n d : List UInt8) : Nat × Uv :=
 if (zhm n).1 = 0 then (match z6e d (z54 sch) with
  | none => (16, uv0)
  | some p => (0, ⟨sch, user, (zhm n).2, p, z6h rest⟩))
 else ((zhm n).1, uv0)
def z6j (sch auth rest : List UInt8) : Nat × Uv := match z6g (z6d auth) with
 | none => (4, uv0)
 | some q => z6i sch (z6c auth) rest q.1 q.2
def z6k (sch r : List UInt8) : Nat × Uv := if r.take 2 = [47, 47] then z6j sch (zcx z6b (r.drop 2)) (zcy z6b (r.drop 2)) else (4, uv0)
def z6l (l : List UInt8) : Nat × Uv :=
 if l.any z57 = true then (4, uv0)
 else if (l.any (isB 58) && z6a (zcx (isB 58) l)) = true then
  (if z55 (zbk (zcx (isB 58) l)) = true then z6k (zbk (zcx (isB 58) l)) ((zcy (isB 58) l).drop 1) else (0, ⟨zbk (zcx (isB 58) l), [], hv0, -1, (zcy (isB 58) l).drop 1⟩))
 else (15, uv0)
def z6m (l : List UInt8) : Nat × Uv := if 2048 < l.length then (3, uv0) else z6l l
def z6n (s : List UInt8) : List UInt8 := if s = [] then [] else s ++ [64]
def z6o (p : Int) : List UInt8 := if p = -1 then [] else 58 :: Lib.decDigits p.toNat
def z6p (u : Uv) : List UInt8 := if z55 u.scheme = true then u.scheme ++ 58 :: 47 :: 47 :: (z6n u.user ++ (zhp u.host ++ z6o u.port) ++ u.rest) else u.scheme ++ 58 :: u.rest
def upU (u : Uv) : Uv := if z53 u.scheme = true then ⟨z56 u.scheme, u.user, u.host, if u.port = 443 then -1 else u.port, u.rest⟩ else u
theorem z6q {l : List UInt8} (h : 64 ∉ l) : z6c l = [] /\ z6d l = l := by
 have hh : ∀ b ∈ l.reverse, isB 64 b = false := by
  intro b hb
  have : b ≠ 64 := fun e => h (by rw [<- e]; exact List.mem_reverse.1 hb)
  simpa [isB] using this
 obtain ⟨h1, h2⟩ := zc2 hh
 unfold z6c z6d
 rw [h1, h2]
 simp
theorem z6r {u a : List UInt8} (h : 64 ∉ a) : z6c (u ++ 64 :: a) = u /\ z6d (u ++ 64 :: a) = a := by
 have hh : ∀ b ∈ a.reverse, isB 64 b = false := by
  intro b hb
  have : b ≠ 64 := fun e => h (by rw [<- e]; exact List.mem_reverse.1 hb)
  simpa [isB] using this
 have e : (u ++ 64 :: a).reverse = a.reverse ++ 64 :: u.reverse := by simp
 obtain ⟨h1, h2⟩ := zc3 hh (b := 64 :: u.reverse) 64 u.reverse rfl (by simp [isB])
 unfold z6c z6d
 rw [e, h1, h2]
 simp
theorem z6s (l : List UInt8) : (64 ∉ l /\ z6c l = [] /\ z6d l = l) \/ (l = z6c l ++ 64 :: z6d l /\ 64 ∉ z6d l) := by
 have h1 := zcz (isB 64) l.reverse
 have h2 : 64 ∉ z6d l := by
  unfold z6d
  rw [List.mem_reverse]
  intro hm
  have := zc0 (isB 64) l.reverse 64 hm
  simp [isB] at this
 cases hf : zcy (isB 64) l.reverse with
 | nil =>
   left
   rw [hf, List.append_nil] at h1
   have e : z6d l = l := by unfold z6d; rw [h1, List.reverse_reverse]
   rw [e] at h2
   exact ⟨h2, (z6q h2).1, e⟩
 | cons b r =>
   right
   have hb : b = 64 := by simpa [isB] using zc1 (isB 64) _ b r hf
   have e : l = z6c l ++ 64 :: z6d l := by
    unfold z6c z6d
    rw [hf, List.drop_succ_cons, List.drop_zero]
    have := congrArg List.reverse h1
    rw [hf, hb, List.reverse_reverse] at this
    exact this.symm.trans (by simp)
   exact ⟨e, h2⟩
theorem z6t (b : UInt8) (h : (z58 b || z59 b) = true) : z57 b = false /\ isB 58 b = false /\ z6b b = false := by
 have key : ∀ n : Fin 256, (z58 (UInt8.ofNat n.val) || z59 (UInt8.ofNat n.val)) = true -> z57 (UInt8.ofNat n.val) = false /\ isB 58 (UInt8.ofNat n.val) = false /\ z6b (UInt8.ofNat n.val) = false := by decide +kernel
 have := key ⟨b.toNat, b.toNat_lt⟩
 simp only [UInt8.ofNat_toNat] at this
 exact this h
theorem z6u (b : UInt8) : z58 (zbf b) = z58 b /\ z59 (zbf b) = z59 b /\ z57 (zbf b) = z57 b /\ isB 58 (zbf b) = isB 58 b := by
 have key : ∀ n : Fin 256, z58 (zbf (UInt8.ofNat n.val)) = z58 (UInt8.ofNat n.val) /\ z59 (zbf (UInt8.ofNat n.val)) = z59 (UInt8.ofNat n.val) /\ z57 (zbf (UInt8.ofNat n.val)) = z57 (UInt8.ofNat n.val) /\ isB 58 (zbf (UInt8.ofNat n.val)) = isB 58 (UInt8.ofNat n.val) := by decide +kernel
 have := key ⟨b.toNat, b.toNat_lt⟩
 simp only [UInt8.ofNat_toNat] at this
 exact this
theorem z6v {s : List UInt8} (h : z6a s = true) : ∀ b ∈ s, (z58 b || z59 b) = true := by
 cases s with
 | nil => cases h
 | cons a r =>
   unfold z6a at h
   rw [Bool.and_eq_true, List.all_eq_true] at h
   intro b hb
   rcases List.mem_cons.1 hb with rfl | hb
   ·rw [h.1]; rfl
   ·exact h.2 b hb
theorem z6w (s : List UInt8) : z6a (zbk s) = z6a s := by
 cases s with
 | nil => rfl
 | cons a r =>
   show (z58 (zbf a) && (r.map zbf).all _) = _
   rw [List.all_map, (z6u a).1]
   unfold z6a
   congr 2
   funext c
   show (z58 (zbf c) || z59 (zbf c)) = _
   rw [(z6u c).1, (z6u c).2.1]
def z6x (b : UInt8) : Prop := z57 b = false /\ z6b b = false /\ b ≠ 64
instance (b : UInt8) : Decidable (z6x b) := by unfold z6x; infer_instance
theorem z6y (b : UInt8) (h : okN b.toNat = true) : z6x b /\ b ≠ 58 /\ b ≠ 91 /\ b ≠ 93 := by
 have key : ∀ n : Fin 256, okN (UInt8.ofNat n.val).toNat = true -> (z57 (UInt8.ofNat n.val) = false /\ z6b (UInt8.ofNat n.val) = false /\ UInt8.ofNat n.val ≠ 64) /\ UInt8.ofNat n.val ≠ 58 /\ UInt8.ofNat n.val ≠ 91 /\ UInt8.ofNat n.val ≠ 93 := by decide +kernel
 have := key ⟨b.toNat, b.toNat_lt⟩
 simp only [UInt8.ofNat_toNat] at this
 exact this h
theorem z6z (b : UInt8) (h : 48 <= b.toNat /\ b.toNat <= 57) : z6x b /\ b ≠ 58 /\ b ≠ 91 /\ b ≠ 93 := by
 refine z6y b ?_
 unfold okN
 rw [jT h.1, jT h.2]
 simp
theorem z60 : ∀ d : Fin 16, (z57 (zda d.val) = false /\ z6b (zda d.val) = false /\ zda d.val ≠ 64) /\ zda d.val ≠ 93 := by decide +kernel
theorem z61 {g : List Nat} (hg : G16 g) : ∀ b ∈ znf g, z6x b /\ b ≠ 93 := by
 have h58 : z6x 58 /\ (58 : UInt8) ≠ 93 := ⟨⟨by decide, by decide, by decide⟩, by decide⟩
 have hj : ∀ P : List Nat, G16 P -> ∀ b ∈ z2v 58 (P.map zna), z6x b /\ b ≠ 93 := by
  intro P hP b hb
  rcases zhe 58 _ b hb with rfl | ⟨x, hx, hb⟩
  ·exact h58
  ·obtain ⟨v, hv, rfl⟩ := List.mem_map.1 hx
   have hv := hP v hv
   have := zdl (b := 16) (by omega) (by omega) (fun c => decide (z6x c /\ c ≠ 93)) (fun d hd => by
    have h := z60 ⟨d, hd⟩
    exact jT h) v (by omega)
   exact of_decide_eq_true (List.all_eq_true.1 this b hb)
 intro b hb
 unfold znf zne at hb
 split at hb
 ·exact hj _ (hg.take _) b hb
 ·rcases List.mem_append.1 hb with hb | hb
  ·exact hj _ (hg.take _) b hb
  ·rcases List.mem_cons.1 hb with rfl | hb
   ·exact h58
   rcases List.mem_cons.1 hb with rfl | hb
   ·exact h58
   ·exact hj _ ((hg.take _).drop _) b hb
theorem z62 {h : Hv} (hw : h.Wf) (hv : zhn h = true) : (∀ b ∈ zhp h, z6x b) /\ zhp h ≠ [] /\ (((zhp h).head? ≠ some 91 /\ ∀ b ∈ zhp h, b ≠ 58) \/ ∃ x, zhp h = 91 :: (x ++ [93]) /\ ∀ b ∈ x, b ≠ 93) := by
 unfold zhp
 rw [if_pos hv]
 rcases zib hv with ⟨hn, he⟩ | he | he
 ·have hk : h.kind = 1 := by rw [he]; rfl
  unfold zho
  rw [if_pos hk]
  have hb : ∀ b ∈ h.name, z6x b /\ b ≠ 58 /\ b ≠ 91 := by
   intro b hb
   rcases hn.bytes b hb with rfl | hb
   ·exact ⟨⟨by decide, by decide, by decide⟩, by decide, by decide⟩
   ·exact ⟨(z6y b hb).1, (z6y b hb).2.1, (z6y b hb).2.2.1⟩
  refine ⟨fun b h => (hb b h).1, hn.ne, .inl ⟨?_, fun b h => (hb b h).2.1⟩⟩
  intro hh
  cases hnm : h.name with
  | nil => exact hn.ne hnm
  | cons a r =>
    rw [hnm] at hh
    injection hh with hh
    exact (hb a (by rw [hnm]; simp)).2.2 hh
 ·have hk : h.kind = 2 := by rw [he]; rfl
  unfold zho
  rw [if_neg (by omega), if_pos hk]
  have hb : ∀ b ∈ zps h.v4, z6x b /\ b ≠ 58 /\ b ≠ 91 := by
   intro b hb
   rcases zh5 h.v4 b hb with rfl | hb
   ·exact ⟨⟨by decide, by decide, by decide⟩, by decide, by decide⟩
   ·exact ⟨(z6z b hb).1, (z6z b hb).2.1, (z6z b hb).2.2.1⟩
  have hne : zps h.v4 ≠ [] := by
   unfold zps
   intro e
   have := congrArg List.length e
   simp [z2v] at this
  refine ⟨fun b h => (hb b h).1, hne, .inl ⟨?_, fun b h => (hb b h).2.1⟩⟩
  intro hh
  cases hnm : zps h.v4 with
  | nil => exact hne hnm
  | cons a r =>
    rw [hnm] at hh
    injection hh with hh
    exact (hb a (by rw [hnm]; simp)).2.2 hh
 ·have hk : h.kind = 3 := by rw [he]; rfl
  unfold zho
  rw [if_neg (by omega), if_neg (by omega)]
  have hb := z61 hw.2.2
  refine ⟨?_, by simp, .inr ⟨znf h.v6, rfl, fun b h => (hb b h).2⟩⟩
  intro b h9
  rcases List.mem_cons.1 h9 with rfl | h9
  ·exact ⟨by decide, by decide, by decide⟩
  rcases List.mem_append.1 h9 with h9 | h9
  ·exact (hb b h9).1
  ·simp at h9
   subst h9
   exact ⟨by decide, by decide, by decide⟩
structure UGood (u : Uv) : Prop where
 sch : z6a u.scheme = true
 low : zbk u.scheme = u.scheme
 exu : ∀ b ∈ u.user, z57 b = false
 exr : ∀ b ∈ u.rest, z57 b = false
 wf : u.host.Wf
 spec : z55 u.scheme = true -> zhn u.host = true /\ (∀ b ∈ u.user, z6b b = false) /\ u.rest.head? = some 47 /\ (u.port = -1 \/ (0 <= u.port /\ u.port <= 65535 /\ u.port ≠ z54 u.scheme))
 plain : z55 u.scheme = false -> u.user = [] /\ u.host = hv0 /\ u.port = -1
theorem z63 {d : List UInt8} {std p : Int} (h : z6e d std = some p) : p = -1 \/ (0 <= p /\ p <= 65535 /\ p ≠ std) := by
 unfold z6e at h
 split at h
 ·injection h with h
  exact .inl h.symm
 ·split at h
  ·split at h
   ·cases h
   ·rename_i h1
    split at h
    ·injection h with h
     exact .inl h.symm
    ·rename_i h2
     injection h with h
     subst h
     exact .inr ⟨by omega, by omega, h2⟩
  ·cases h
theorem z64 {sch user rest n d : List UInt8} {u : Uv} (h : z6i sch user rest n d = (0, u)) (hs : z6a sch = true) (hl : zbk sch = sch) (hsp : z55 sch = true) (hu : ∀ b ∈ user, z57 b = false /\ z6b b = false) (hr : ∀ b ∈ rest, z57 b = false) : UGood u := by
 unfold z6i at h
 split at h
 ·rename_i h0
  split at h
  ·cases h
  ·rename_i p hp
   obtain ⟨_, rfl⟩ := Prod.mk.inj h
   obtain ⟨hw, hv⟩ := zim n
   have hvv : zhn (zhm n).2 = true := by
    rcases hv with ⟨_, hv⟩ | ⟨hv, _⟩
    ·exact hv
    ·exact absurd h0 hv
   refine ⟨hs, hl, fun b hb => (hu b hb).1, ?_, hw, fun _ => ⟨hvv, fun b hb => (hu b hb).2, ?_, z63 hp⟩, fun h => ?_⟩
   ·intro b hb
    simp only [z6h] at hb
    split at hb
    ·exact hr b hb
    ·rcases List.mem_cons.1 hb with rfl | hb
     ·decide
     ·exact hr b hb
   ·simp only [z6h]
    split
    ·rename_i h; exact h
    ·rfl
   ·rw [show (Uv.mk sch user (zhm n).2 p (z6h rest)).scheme = sch from rfl, hsp] at h
    cases h
 ·rename_i h0
  exact absurd (Prod.mk.inj h).1 h0
theorem z65 {l : List UInt8} {b : UInt8} (h : b ∈ z6c l) : b ∈ l := by
 rcases z6s l with ⟨_, h1, _⟩ | ⟨h1, _⟩
 ·rw [h1] at h; cases h
 ·rw [h1]; exact List.mem_append_left _ h
theorem z66 {l : List UInt8} {u : Uv} (h : z6l l = (0, u)) : UGood u := by
 unfold z6l at h
 split at h
 ·cases h
 rename_i hx
 have hx : ∀ b ∈ l, z57 b = false := zc5 (by simpa using hx)
 split at h
 ·rename_i hs
  rw [Bool.and_eq_true] at hs
  have h1 := hs.2
  rw [<- z6w] at h1
  split at h
  ·rename_i hsp
   unfold z6k at h
   split at h
   ·unfold z6j at h
    split at h
    ·cases h
    ·refine z64 h h1 (zbo _) hsp ?_ ?_
     ·intro b hb
      have hb := z65 hb
      exact ⟨hx b (zc8 (List.mem_of_mem_drop (List.mem_of_mem_drop (zc7 hb)))), zc0 z6b _ b hb⟩
     ·intro b hb
      exact hx b (zc8 (List.mem_of_mem_drop (List.mem_of_mem_drop (zc8 hb))))
   ·cases h
  ·rename_i hsp
   obtain ⟨_, rfl⟩ := Prod.mk.inj h
   refine ⟨h1, zbo _, (fun b hb => by cases hb), ?_, zil, fun h => absurd h hsp, fun _ => ⟨rfl, rfl, rfl⟩⟩
   intro b hb
   exact hx b (zc8 (List.mem_of_mem_drop hb))
 ·cases h
theorem z67 {p std : Int} (h : p = -1 \/ (0 <= p /\ p <= 65535 /\ p ≠ std)) : z6e ((z6o p).drop 1) std = some p := by
 unfold z6o
 split
 ·rename_i h1
  subst h1
  rfl
 ·rename_i h1
  rcases h with h | ⟨h2, h3, h4⟩
  ·exact absurd h h1
  rw [List.drop_succ_cons, List.drop_zero]
  unfold z6e
  have e : (p.toNat : Int) = p := by omega
  rw [if_neg (z12 _), if_pos (z11 _), zpv, if_neg (by omega), e, if_neg h4]
theorem z68 {x : List UInt8} {p : Int} (h : (x.head? ≠ some 91 /\ ∀ b ∈ x, b ≠ 58) \/ ∃ y, x = 91 :: (y ++ [93]) /\ ∀ b ∈ y, b ≠ 93) (hne : x ≠ []) : z6g (x ++ z6o p) = some (x, (z6o p).drop 1) := by
 unfold z6g
 rcases h with ⟨h1, h2⟩ | ⟨y, rfl, h2⟩
 ·have hh : (x ++ z6o p).head? ≠ some 91 := by
   cases x with
   | nil => exact absurd rfl hne
   | cons a r => exact h1
  rw [if_neg hh]
  have h3 : ∀ b ∈ x, isB 58 b = false := fun b hb => by simpa [isB] using h2 b hb
  unfold z6o
  split
  ·rw [List.append_nil, (zc2 h3).1, (zc2 h3).2]
  ·obtain ⟨e1, e2⟩ := zc3 h3 (b := 58 :: Lib.decDigits p.toNat) 58 _ rfl (by simp [isB])
   rw [e1, e2]
 ·rw [if_pos (by rfl)]
  unfold z6f
  have e : 91 :: (y ++ [93]) ++ z6o p = (91 :: y) ++ 93 :: z6o p := by simp
  have h3 : ∀ b ∈ 91 :: y, isB 93 b = false := by
   intro b hb
   rcases List.mem_cons.1 hb with rfl | hb
   ·decide
   ·simpa [isB] using h2 b hb
  obtain ⟨e1, e2⟩ := zc3 h3 (b := 93 :: z6o p) 93 _ rfl (by simp [isB])
  rw [e, e1, e2]
  by_cases hp : p = -1
  ·rw [show z6o p = [] by unfold z6o; rw [if_pos hp]]
   rfl
  ·rw [show z6o p = 58 :: Lib.decDigits p.toNat by unfold z6o; rw [if_neg hp]]
   rfl
theorem z69 {u : Uv} (h : UGood u) : z6l (z6p u) = (0, u) := by
 obtain ⟨sch, user, host, port, rest⟩ := u
 have hs := z6v h.sch
 have h58 : ∀ b ∈ sch, isB 58 b = false := fun b hb => (z6t b (hs b hb)).2.1
 have hxs : ∀ b ∈ sch, z57 b = false := fun b hb => (z6t b (hs b hb)).1
 cases hsp : z55 sch with
 | true =>
   obtain ⟨hv, hu, hr, hp⟩ := h.spec hsp
   have hw := h.wf
   have hxu := h.exu
   have hxr := h.exr
   have hsc := h.sch
   have hlo := h.low
   simp only at hv hu hr hp hw hxu hxr hsc hlo
   obtain ⟨hb, hne, hc⟩ := z62 hw hv
   have hpt : ∀ b ∈ z6o port, z6x b := by
    unfold z6o
    split
    ·intro b hb; cases hb
    ·intro b hb
     rcases List.mem_cons.1 hb with rfl | hb
     ·exact ⟨by decide, by decide, by decide⟩
     ·exact (z6z b (zh4 _ b hb)).1
   have hA : ∀ b ∈ zhp host ++ z6o port, z6x b := fun b hb' => by
    rcases List.mem_append.1 hb' with h | h
    ·exact hb b h
    ·exact hpt b h
   obtain ⟨a, ha⟩ : ∃ a, a = zhp host ++ z6o port := ⟨_, rfl⟩
   have et : z6p ⟨sch, user, host, port, rest⟩ = sch ++ 58 :: 47 :: 47 :: (z6n user ++ a ++ rest) := by
    unfold z6p
    rw [if_pos hsp, ha]
   have hU : ∀ b ∈ z6n user, z57 b = false /\ z6b b = false := by
    unfold z6n
    split
    ·intro b hb; cases hb
    ·intro b hb
     rcases List.mem_append.1 hb with h | h
     ·exact ⟨hxu b h, hu b h⟩
     ·simp at h
      subst h
      exact ⟨by decide, by decide⟩
   rw [et]
   have hE : (sch ++ 58 :: 47 :: 47 :: (z6n user ++ a ++ rest)).any z57 = false := by
    refine zc6 fun b hb => ?_
    rcases List.mem_append.1 hb with h | h
    ·exact hxs b h
    rcases List.mem_cons.1 h with rfl | h
    ·decide
    rcases List.mem_cons.1 h with rfl | h
    ·decide
    rcases List.mem_cons.1 h with rfl | h
    ·decide
    rcases List.mem_append.1 h with h | h
    ·rcases List.mem_append.1 h with h | h
     ·exact (hU b h).1
     ·rw [ha] at h; exact (hA b h).1
    ·exact hxr b h
   unfold z6l
   rw [if_neg (by rw [hE]; simp)]
   obtain ⟨e1, e2⟩ := zc3 h58 (b := 58 :: 47 :: 47 :: (z6n user ++ a ++ rest)) 58 _ rfl (by decide)
   rw [e1, e2, if_pos (by rw [Bool.and_eq_true]; exact ⟨zc4.2 (by simp), hsc⟩), hlo, if_pos hsp]
   unfold z6k
   rw [if_pos (by rfl)]
   have hend : ∀ b ∈ z6n user ++ a, z6b b = false := fun b hb => by
    rcases List.mem_append.1 hb with h | h
    ·exact (hU b h).2
    ·rw [ha] at h; exact (hA b h).2.1
   have hrc : ∃ r, rest = 47 :: r := by
    cases rest with
    | nil => cases hr
    | cons c r =>
      injection hr with hr
      exact ⟨r, by rw [hr]⟩
   obtain ⟨r, hrr⟩ := hrc
   obtain ⟨e3, e4⟩ := zc3 hend (b := rest) 47 r hrr (by decide)
   rw [show (List.drop 1 (58 :: 47 :: 47 :: (z6n user ++ a ++ rest))).drop 2 = z6n user ++ a ++ rest from rfl, e3, e4]
   have h64 : 64 ∉ a := fun hm => by rw [ha] at hm; exact (hA 64 hm).2.2 rfl
   have eU : z6c (z6n user ++ a) = user /\ z6d (z6n user ++ a) = a := by
    unfold z6n
    split
    ·rename_i h0
     rw [List.nil_append, h0]
     exact z6q h64
    ·rw [List.append_assoc]
     exact z6r h64
   unfold z6j
   rw [eU.1, eU.2, ha, z68 hc hne]
   simp only
   unfold z6i
   rw [zif hw hv (by have : (znf host.v6).length <= 82 := zn9 host.v6 hw.2.2 _ _ 8 jH; omega), z67 hp]
   simp only [if_true]
   have : z6h rest = rest := by unfold z6h; rw [if_pos hr]
   rw [this]
 | false =>
   obtain ⟨h1, h2, h3⟩ := h.plain hsp
   have hxr := h.exr
   have hsc := h.sch
   have hlo := h.low
   simp only at h1 h2 h3 hxr hsc hlo
   have et : z6p ⟨sch, user, host, port, rest⟩ = sch ++ 58 :: rest := by
    unfold z6p
    rw [if_neg (by rw [hsp]; simp)]
   rw [et]
   have hE : (sch ++ 58 :: rest).any z57 = false := by
    refine zc6 fun b hb => ?_
    rcases List.mem_append.1 hb with h | h
    ·exact hxs b h
    rcases List.mem_cons.1 h with rfl | h
    ·decide
    ·exact hxr b h
   unfold z6l
   rw [if_neg (by rw [hE]; simp)]
   obtain ⟨e1, e2⟩ := zc3 h58 (b := 58 :: rest) 58 _ rfl (by decide)
   rw [e1, e2, if_pos (by rw [Bool.and_eq_true]; exact ⟨zc4.2 (by simp), hsc⟩), hlo, if_neg (by rw [hsp]; simp), h1, h2, h3]
   rfl
theorem z7a {s : List UInt8} (h : z53 s = true) : s = z50 \/ s = sWs := by
 unfold z53 at h
 simpa using h
theorem z7b : ∀ s, z53 s = true -> z6a (z56 s) = true /\ zbk (z56 s) = z56 s /\ z55 s = true /\ z55 (z56 s) = true /\ z53 (z56 s) = false /\ z54 (z56 s) = 443 /\ z54 s = 80 := by
 intro s h
 rcases z7a h with rfl | rfl <;> decide +kernel
theorem z7c {u : Uv} (h : UGood u) : UGood (upU u) := by
 unfold upU
 split
 ·rename_i hi
  obtain ⟨f1, f2, f3, f4, f5, f6, f7⟩ := z7b u.scheme hi
  obtain ⟨g1, g2, g3, g4⟩ := h.spec f3
  refine ⟨f1, f2, h.exu, h.exr, h.wf, fun _ => ⟨g1, g2, g3, ?_⟩, fun h9 => ?_⟩
  ·show (if u.port = 443 then -1 else u.port) = -1 \/ (0 <= (if u.port = 443 then -1 else u.port) /\ (if u.port = 443 then -1 else u.port) <= 65535 /\ (if u.port = 443 then -1 else u.port) ≠ z54 (z56 u.scheme))
   rw [f6]
   split
   ·exact .inl rfl
   ·rename_i hp
    rcases g4 with g4 | g4
    ·exact .inl g4
    ·exact .inr ⟨g4.1, g4.2.1, hp⟩
  ·rw [show (Uv.mk (z56 u.scheme) u.user u.host (if u.port = 443 then -1 else u.port) u.rest).scheme = z56 u.scheme from rfl, f4] at h9
   cases h9
 ·exact h
end

end Go.Proofs.YtekaljeicfjkjaaGreatDoor
