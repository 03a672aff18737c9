/-
Punycode in plain words: the numbers that the encoder writes lead to the code points. No program.
Punycode in plain words: encoding and decoding of bytes, and that they are inverse. No program.
Plain mathematics of package ascii: no program.
-/
import Derived.Test.YtekaljeicfjkjaaGreatDoorK00
namespace Go.Proofs.YtekaljeicfjkjaaGreatDoor
section
open Go.RowKit
set_option maxHeartbeats 16000000
def inD (n : Nat) : List Nat -> Nat -> List Nat × Nat
 | [], e => ([], e)
 | p :: r, e => if p < n then inD n r (e + 1) else if p = n then (e :: (inD n r 0).1, (inD n r 0).2) else inD n r e
def zy1 (n : Nat) : List Nat -> Nat
 | [] => 1073741824
 | p :: r => if n <= p then min p (zy1 n r) else zy1 n r
def zy2 : Nat -> List Nat -> Nat -> Nat -> Nat -> List Nat
 | 0, _, _, _, _ => []
 | f + 1, P, n, e, done => if done < P.length then (inD (zy1 n P) P (e + (zy1 n P - n) * (done + 1))).1 ++ zy2 f P (zy1 n P + 1) ((inD (zy1 n P) P (e + (zy1 n P - n) * (done + 1))).2 + 1) (done + (inD (zy1 n P) P (e + (zy1 n P - n) * (done + 1))).1.length) else []
def zy3 (P : List Nat) : List Nat := P.filter (fun x => decide (x < 128))
def zy4 (P : List Nat) : List Nat := zy2 (P.length + 1) P 128 0 (zy3 P).length
def PSt.Ok : PSt -> List Nat -> Prop
 | _, [] => True
 | s, v :: r => s.i + v <= 17179869184 /\ ptN (s.val v) = true /\ (s.step v).Ok r
theorem PSt.Ok.append : ∀ (a b : List Nat) (s : PSt), s.Ok a -> (s.run a).Ok b -> s.Ok (a ++ b)
 | [], _, _, _, h => h
 | v :: r, b, s, h1, h2 => ⟨h1.1, h1.2.1, PSt.Ok.append r b (s.step v) h1.2.2 h2⟩
structure Syn (A B : List Nat) (n e : Nat) (s : PSt) : Prop where
 out : s.out = A.filter (fun x => decide (x <= n)) ++ B.filter (fun x => decide (x < n))
 cnt : e + s.i = (n - s.n) * (s.out.length + 1) + (A.filter (fun x => decide (x <= n))).length
 le : s.n <= n
theorem Syn.emit {A B : List Nat} {n e : Nat} {s : PSt} (h : Syn A (n :: B) n e s) : s.val e = n /\ s.pos e = (A.filter (fun x => decide (x <= n))).length /\ Syn (A ++ [n]) B n 0 (s.step e) := by
 have hB : (n :: B).filter (fun x => decide (x < n)) = B.filter (fun x => decide (x < n)) := by simp
 have ho := h.out
 rw [hB] at ho
 have hp : (A.filter (fun x => decide (x <= n))).length < s.out.length + 1 := by rw [ho, List.length_append]; omega
 have hj : s.i + e = (A.filter (fun x => decide (x <= n))).length + (s.out.length + 1) * (n - s.n) := by
  have := h.cnt
  rw [Nat.mul_comm (n - s.n)] at this
  omega
 have hv : s.val e = n := by
  unfold PSt.val
  rw [hj, Nat.add_mul_div_left _ _ (by omega), Nat.div_eq_of_lt hp]
  have := h.le
  omega
 have hq : s.pos e = (A.filter (fun x => decide (x <= n))).length := by
  unfold PSt.pos
  rw [hj, Nat.add_mul_mod_self_left, Nat.mod_eq_of_lt hp]
 refine ⟨hv, hq, ?_⟩
 have hs : (s.step e).out = (A ++ [n]).filter (fun x => decide (x <= n)) ++ B.filter (fun x => decide (x < n)) := by
  show s.out.take (s.pos e) ++ s.val e :: s.out.drop (s.pos e) = _
  rw [hv, hq, ho, List.take_left' rfl, List.drop_left' rfl, List.filter_append]
  simp
 refine ⟨hs, ?_, ?_⟩
 ·show 0 + (s.pos e + 1) = (n - s.val e) * _ + _
  rw [hv, hq, Nat.sub_self, Nat.zero_mul, List.filter_append, List.length_append]
  simp
 ·show s.val e <= n
  rw [hv]; exact jH
theorem Syn.less {A B : List Nat} {p n e : Nat} {s : PSt} (h : Syn A (p :: B) n e s) (h1 : p < n) : Syn (A ++ [p]) B n (e + 1) s := by
 have f1 : (A ++ [p]).filter (fun x => decide (x <= n)) = A.filter (fun x => decide (x <= n)) ++ [p] := by rw [List.filter_append, z0n (l := [p]) (fun x hx => by simp at hx; subst hx; exact jT (by omega))]
 have f2 : (p :: B).filter (fun x => decide (x < n)) = p :: B.filter (fun x => decide (x < n)) := List.filter_cons_of_pos (jT h1)
 refine ⟨?_, ?_, h.le⟩
 ·rw [h.out, f1, f2]; simp
 ·rw [f1, List.length_append, List.length_singleton]
  have := h.cnt
  omega
theorem Syn.more {A B : List Nat} {p n e : Nat} {s : PSt} (h : Syn A (p :: B) n e s) (h1 : ¬ p < n) (h2 : p ≠ n) : Syn (A ++ [p]) B n e s := by
 have f1 : (A ++ [p]).filter (fun x => decide (x <= n)) = A.filter (fun x => decide (x <= n)) := by rw [List.filter_append, z0o (l := [p]) (fun x hx => by simp at hx; subst hx; exact jF (by omega)), List.append_nil]
 have f2 : (p :: B).filter (fun x => decide (x < n)) = B.filter (fun x => decide (x < n)) := List.filter_cons_of_neg (by simp; omega)
 refine ⟨?_, ?_, h.le⟩
 ·rw [h.out, f1, f2]
 ·rw [f1]; exact h.cnt
theorem zy5 (n : Nat) : ∀ (B : List Nat) (e : Nat), (inD n B e).1.length = (B.filter (fun x => decide (x = n))).length
 | [], _ => rfl
 | p :: B, e => by
   by_cases h1 : p < n
   ·rw [inD, if_pos h1, zy5 n B, List.filter_cons_of_neg (by simp; omega)]
   ·by_cases h2 : p = n
    ·rw [inD, if_neg h1, if_pos h2, List.filter_cons_of_pos (by simpa using h2), List.length_cons, List.length_cons, zy5 n B]
    ·rw [inD, if_neg h1, if_neg h2, zy5 n B, List.filter_cons_of_neg (by simpa using h2)]
theorem Syn.pos_le {A B : List Nat} {n e : Nat} {s : PSt} (h : Syn A B n e s) : (A.filter (fun x => decide (x <= n))).length <= s.out.length := by
 rw [h.out, List.length_append]; omega
theorem zy6 (n : Nat) (hn : ptN n = true) : ∀ (B A : List Nat) (e : Nat) (s : PSt), Syn A B n e s -> (A ++ B).length <= 256 ->
 Syn (A ++ B) [] n (inD n B e).2 (s.run (inD n B e).1) /\ s.Ok (inD n B e).1 /\ (inD n B e).1.length + (A.filter (fun x => decide (x = n))).length = ((A ++ B).filter (fun x => decide (x = n))).length
 | [], A, e, s, h, _ => by
   rw [List.append_nil]
   exact ⟨h, trivial, by simp [inD]⟩
 | p :: B, A, e, s, h, hl => by
   have eAB : A ++ p :: B = (A ++ [p]) ++ B := by simp
   rw [eAB] at hl ⊢
   by_cases h1 : p < n
   ·rw [inD, if_pos h1]
    have hs : Syn (A ++ [p]) B n (e + 1) s := by
     have f1 : (A ++ [p]).filter (fun x => decide (x <= n)) = A.filter (fun x => decide (x <= n)) ++ [p] := by rw [List.filter_append, z0n (l := [p]) (fun x hx => by simp at hx; subst hx; exact jT (by omega))]
     have f2 : (p :: B).filter (fun x => decide (x < n)) = p :: B.filter (fun x => decide (x < n)) := List.filter_cons_of_pos (jT h1)
     refine ⟨?_, ?_, h.le⟩
     ·rw [h.out, f1, f2]; simp
     ·rw [f1, List.length_append, List.length_singleton]
      have := h.cnt
      omega
    have ih := zy6 n hn B (A ++ [p]) (e + 1) s hs hl
    have f3 : ((A ++ [p]).filter (fun x => decide (x = n))).length = (A.filter (fun x => decide (x = n))).length := by
     rw [List.filter_append, z0o (l := [p]) (fun x hx => by simp at hx; subst hx; exact jF (by omega)), List.append_nil]
    rw [f3] at ih
    exact ih
   ·by_cases h2 : p = n
    ·subst h2
     rw [inD, if_neg h1, if_pos rfl]
     obtain ⟨hv, hq, hs⟩ := h.emit
     have ih := zy6 p hn B (A ++ [p]) 0 (s.step e) hs hl
     have hle := zzo hn
     have hpl := h.pos_le
     have hol : s.out.length <= 256 := by
      rw [h.out, List.length_append]
      have a1 := List.length_filter_le (fun x => decide (x <= p)) A
      have a2 := List.length_filter_le (fun x => decide (x < p)) (p :: B)
      rw [List.length_append, List.length_append] at hl
      simp only [List.length_cons, List.length_nil] at hl a2
      omega
     have f3 : ((A ++ [p]).filter (fun x => decide (x = p))).length = (A.filter (fun x => decide (x = p))).length + 1 := by
      rw [List.filter_append, z0n (l := [p]) (fun x hx => by simp at hx; subst hx; exact jT rfl), List.length_append]; rfl
     rw [f3] at ih
     refine ⟨ih.1, ⟨?_, by rw [hv]; exact hn, ih.2.1⟩, ?_⟩
     ·have hm : (p - s.n) * (s.out.length + 1) <= 1114111 * 257 := Nat.mul_le_mul (by omega) (by omega)
      have := h.cnt
      omega
     ·have := ih.2.2
      simp only [List.length_cons]
      omega
    ·rw [inD, if_neg h1, if_neg h2]
     have hs : Syn (A ++ [p]) B n e s := by
      have f1 : (A ++ [p]).filter (fun x => decide (x <= n)) = A.filter (fun x => decide (x <= n)) := by rw [List.filter_append, z0o (l := [p]) (fun x hx => by simp at hx; subst hx; exact jF (by omega)), List.append_nil]
      have f2 : (p :: B).filter (fun x => decide (x < n)) = B.filter (fun x => decide (x < n)) := List.filter_cons_of_neg (by simp; omega)
      refine ⟨?_, ?_, h.le⟩
      ·rw [h.out, f1, f2]
      ·rw [f1]; exact h.cnt
     have ih := zy6 n hn B (A ++ [p]) e s hs hl
     have f3 : ((A ++ [p]).filter (fun x => decide (x = n))).length = (A.filter (fun x => decide (x = n))).length := by
      rw [List.filter_append, z0o (l := [p]) (fun x hx => by simp at hx; subst hx; exact jF (by omega)), List.append_nil]
     rw [f3] at ih
     exact ih
theorem zy7 (n : Nat) : ∀ (P : List Nat) (p : Nat), p ∈ P -> n <= p -> zy1 n P <= p
 | [], p, h, _ => by simp at h
 | q :: P, p, h, hn => by
   rw [zy1]
   rcases List.mem_cons.1 h with rfl | h
   ·rw [if_pos hn]; exact Nat.min_le_left _ _
   ·have := zy7 n P p h hn
    split
    ·exact Nat.le_trans (Nat.min_le_right _ _) this
    ·exact this
theorem zy8 (n : Nat) : ∀ (P : List Nat), (zy1 n P = 1073741824) \/ (zy1 n P ∈ P /\ n <= zy1 n P)
 | [] => .inl rfl
 | q :: P => by
   rw [zy1]
   split
   ·rename_i hq
    rcases zy8 n P with h | ⟨h1, h2⟩
    ·by_cases hle : q <= 1073741824
     ·rw [h, Nat.min_eq_left hle]; exact .inr ⟨by simp, hq⟩
     ·rw [h, Nat.min_eq_right (by omega)]; exact .inl rfl
    ·by_cases hle : q <= zy1 n P
     ·rw [Nat.min_eq_left hle]; exact .inr ⟨by simp, hq⟩
     ·rw [Nat.min_eq_right (by omega)]; exact .inr ⟨by simp [h1], h2⟩
   ·rcases zy8 n P with h | ⟨h1, h2⟩
    ·exact .inl h
    ·exact .inr ⟨by simp [h1], h2⟩
theorem zy9 (m : Nat) (P : List Nat) : P.filter (fun x => decide (x < m + 1)) = P.filter (fun x => decide (x <= m)) := by
 congr 1
 funext x
 exact decide_eq_decide.2 Nat.lt_succ_iff
theorem zza {P : List Nat} (hP : ∀ p ∈ P, ptN p = true) {n : Nat} (hd : (P.filter (fun x => decide (x < n))).length < P.length) :
 zy1 n P ∈ P /\ n <= zy1 n P /\ P.filter (fun x => decide (x < zy1 n P)) = P.filter (fun x => decide (x < n)) := by
 have hex : ∃ p ∈ P, n <= p := by
  refine Decidable.byContradiction fun hno => ?_
  have : P.filter (fun x => decide (x < n)) = P := z0n (fun x hx => jT (by
   refine Nat.lt_of_not_le fun hle => hno ⟨x, hx, hle⟩))
  rw [this] at hd
  omega
 obtain ⟨p, hp, hnp⟩ := hex
 have hle := zy7 n P p hp hnp
 have hpl := zzo (hP p hp)
 rcases zy8 n P with h | ⟨h1, h2⟩
 ·omega
 ·refine ⟨h1, h2, ?_⟩
  refine List.filter_congr fun x hx => ?_
  rw [decide_eq_decide]
  constructor
  ·intro hx2
   refine Nat.lt_of_not_le fun hxn => ?_
   have := zy7 n P x hx hxn
   omega
  ·intro hx2
   omega
theorem zzb {P : List Nat} (hP : ∀ p ∈ P, ptN p = true) (hl : P.length <= 256) : ∀ (f n e : Nat) (s : PSt), P.length < f + s.out.length -> Syn [] P n e s ->
 (s.run (zy2 f P n e s.out.length)).out = P /\ s.Ok (zy2 f P n e s.out.length)
 | 0, n, e, s, hf, h => by
   have ho := h.out
   rw [List.filter_nil, List.nil_append] at ho
   have := List.length_filter_le (fun x => decide (x < n)) P
   rw [ho] at hf
   omega
 | f + 1, n, e, s, hf, h => by
   have ho : s.out = P.filter (fun x => decide (x < n)) := by have := h.out; rwa [List.filter_nil, List.nil_append] at this
   by_cases hd : s.out.length < P.length
   ·rw [zy2, if_pos hd]
    obtain ⟨hm, hnm, hfl⟩ := zza hP (by rw [<- ho]; exact hd)
    generalize zy1 n P = m at *
    have hs : Syn [] P m (e + (m - n) * (s.out.length + 1)) s := by
     refine ⟨by rw [hfl, <- ho]; rfl, ?_, by have := h.le; omega⟩
     have := h.cnt
     have hle := h.le
     rw [show m - s.n = (m - n) + (n - s.n) by omega, Nat.add_mul]
     simp at this ⊢
     omega
    obtain ⟨i1, i2, i3⟩ := zy6 m (hP m hm) P [] _ s hs (by simpa using hl)
    rw [List.nil_append] at i1 i3
    obtain ⟨x, hx⟩ : ∃ x, x = inD m P (e + (m - n) * (s.out.length + 1)) := ⟨_, rfl⟩
    rw [<- hx] at i1 i2 i3 ⊢
    have ho2 : (s.run x.1).out = P.filter (fun x => decide (x <= m)) := by have := i1.out; rwa [List.filter_nil, List.append_nil] at this
    have hlen : (s.run x.1).out.length = s.out.length + x.1.length := PSt.run_len _ _
    have hpos : 0 < x.1.length := by
     simp at i3
     rw [i3, <- List.countP_eq_length_filter, List.countP_pos_iff]
     exact ⟨m, hm, by simp⟩
    have hs2 : Syn [] P (m + 1) (x.2 + 1) (s.run x.1) := by
     refine ⟨by rw [zy9, ho2]; rfl, ?_, by have := i1.le; omega⟩
     have := i1.cnt
     rw [<- ho2] at this
     have hle := i1.le
     rw [show m + 1 - (s.run x.1).n = (m - (s.run x.1).n) + 1 by omega, Nat.add_mul]
     simp
     omega
    have ih := zzb hP hl f (m + 1) (x.2 + 1) (s.run x.1) (by omega) hs2
    rw [hlen] at ih
    exact ⟨by rw [PSt.run_append]; exact ih.1, PSt.Ok.append _ _ _ i2 ih.2⟩
   ·rw [zy2, if_neg hd]
    refine ⟨?_, trivial⟩
    show s.out = P
    rw [ho]
    refine List.filter_eq_self.2 ?_
    refine List.length_filter_eq_length_iff.1 ?_
    have := List.length_filter_le (fun x => decide (x < n)) P
    rw [ho] at hd
    omega
def PSt.start (b : List Nat) : PSt := ⟨b, 128, 0⟩
theorem PSt.start_inv {b : List Nat} (h : ∀ x ∈ b, x < 128) : (PSt.start b).Inv :=
 ⟨Nat.zero_le _, by intro x hx; simp [PSt.start] at hx, by intro x hx; simp [PSt.start] at hx ⊢; exact h x hx⟩
theorem zzc (P : List Nat) : ∀ x ∈ zy3 P, x < 128 := by
 intro x hx
 have := (List.mem_filter.1 hx).2
 simpa using this
theorem zzd {P : List Nat} (hP : ∀ p ∈ P, ptN p = true) (hl : P.length <= 256) : ((PSt.start (zy3 P)).run (zy4 P)).out = P /\ (PSt.start (zy3 P)).Ok (zy4 P) := by
 refine zzb hP hl (P.length + 1) 128 0 (PSt.start (zy3 P)) (by omega) ⟨rfl, ?_, jH⟩
 simp [PSt.start]
end

section
open Go.RowKit
set_option maxHeartbeats 16000000
def zx6 : List UInt8 -> Nat -> Nat -> Nat
 | [], _, c => c
 | b :: r, i, c => zx6 r (i + 1) (if b = 45 then i else c)
def zx7 (l : List UInt8) : Nat := zx6 l 0 0
theorem zx8 : ∀ (x y : List UInt8) (i c : Nat), zx6 (x ++ y) i c = zx6 y (i + x.length) (zx6 x i c)
 | [], y, i, c => rfl
 | b :: x, y, i, c => by
   rw [List.cons_append, zx6, zx8 x y, zx6, List.length_cons]
   congr 1
   omega
theorem zx9 : ∀ (y : List UInt8) (i c : Nat), (∀ b ∈ y, b ≠ 45) -> zx6 y i c = c
 | [], _, _, _ => rfl
 | b :: y, i, c, h => by
   rw [zx6, if_neg (h b (by simp)), zx9 y _ _ (fun x hx => h x (by simp [hx]))]
theorem zya : ∀ (l : List UInt8) (i c : Nat), zx6 l i c = c \/ zx6 l i c < i + l.length
 | [], i, c => .inl rfl
 | b :: r, i, c => by
   rw [zx6]
   rcases zya r (i + 1) (if b = 45 then i else c) with h | h
   ·rw [h]
    split
    ·right; simp
    ·left; rfl
   ·right
    rw [List.length_cons]
    omega
theorem zyb (l : List UInt8) (h : 0 < zx7 l) : zx7 l < l.length := by
 rcases zya l 0 0 with h1 | h1
 ·unfold zx7 at h; omega
 ·unfold zx7; omega
def zyc (l : List UInt8) : List UInt8 := if 0 < zx7 l then l.drop (zx7 l + 1) else l
def zyd : Nat -> List UInt8 -> PSt -> Nat -> Bool -> Except Nat (List Nat)
 | 0, _, _, _, _ => .error 4
 | f + 1, l, s, bias, first => if l = [] then .ok s.out else match z0c l bias 0 1 s.i with
   | .error e => .error e
   | .ok (j, r) => if ptN (s.val (j - s.i)) = false then .error 2 else if 256 < s.out.length + 1 then .error 3 else zyd f r (s.step (j - s.i)) (adp (j - s.i) (s.out.length + 1) first) false
def zye (l : List UInt8) : Except Nat (List Nat) :=
 if 1024 < l.length then .error 3 else if l.any (fun b => decide (128 <= b.toNat)) = true then .error 4 else if 256 < zx7 l then .error 3
 else zyd (l.length + 1) (zyc l) (PSt.start ((l.take (zx7 l)).map UInt8.toNat)) 72 true
theorem zyf : ∀ (ds : List Nat) (f : Nat) (s : PSt) (bias : Nat) (first : Bool), s.Ok ds -> s.out.length + ds.length <= 256 -> (zz6 ds bias s.out.length first).length < f -> zyd f (zz6 ds bias s.out.length first) s bias first = .ok (s.run ds).out
 | ds, 0, s, bias, first, _, _, hf => by omega
 | [], f + 1, s, bias, first, _, _, _ => by rw [zyd, zz6, if_pos rfl]; rfl
 | v :: r, f + 1, s, bias, first, hok, hl, hf => by
   have hne := zzy v 0 bias
   have hpos := List.length_pos_iff.2 hne
   rw [zz6] at hf ⊢
   rw [List.length_append, List.length_map] at hf
   rw [List.length_cons] at hl
   have h0 : ¬ (zzs v 0 bias).map zzz ++ zz6 r (adp v (s.out.length + 1) first) (s.out.length + 1) false = [] := by
    intro h
    rw [List.append_eq_nil_iff, List.map_eq_nil_iff] at h
    exact hne h.1
   have hr := z0d v v 0 bias 1 s.i (zz6 r (adp v (s.out.length + 1) first) (s.out.length + 1) false) jH jH (by have := hok.1; omega)
   rw [zyd, if_neg h0, hr]
   simp only
   have hv : s.i + v * 1 - s.i = v := by omega
   rw [hv, if_neg (by rw [hok.2.1]; simp), if_neg (by omega)]
   have ih := zyf r f (s.step v) (adp v (s.out.length + 1) first) false hok.2.2 (by rw [PSt.step_len]; omega) (by rw [PSt.step_len]; omega)
   rw [PSt.step_len] at ih
   rw [ih, PSt.run]
theorem zyg : ∀ (f : Nat) (l : List UInt8) (s : PSt) (bias : Nat) (first : Bool) (p : List Nat), zyd f l s bias first = .ok p -> s.out.length <= 256 ->
 ∃ ds, l.map zz4 = zz6 ds bias s.out.length first /\ (s.run ds).out = p /\ p.length <= 256 /\ (∀ x ∈ p, x ∈ s.out \/ (s.n <= x /\ ptN x = true)) /\ (128 <= s.n -> zy3 p = zy3 s.out)
 | 0, l, s, bias, first, p, h, _ => by cases h
 | f + 1, l, s, bias, first, p, h, hl => by
   rw [zyd] at h
   split at h
   ·rename_i hnil
    injection h with h
    subst h hnil
    exact ⟨[], rfl, rfl, hl, fun x hx => .inl hx, fun _ => rfl⟩
   ·split at h
    ·cases h
    ·rename_i j r hr
     obtain ⟨q, x, e1, _, e2, e3⟩ := z0e l bias 0 1 s.i j r hr
     have hq : j - s.i = q := by omega
     rw [hq] at h
     split at h
     ·cases h
     ·rename_i hpt
      split at h
      ·cases h
      ·rename_i h256
       obtain ⟨ds, g1, g2, g3, g4, g5⟩ := zyg f r (s.step q) _ _ p h (by rw [PSt.step_len]; omega)
       refine ⟨q :: ds, ?_, g2, g3, ?_, ?_⟩
       ·rw [e1, List.map_append, e2, g1, PSt.step_len, zz6]
       ·intro y hy
        rcases g4 y hy with hy | ⟨hy1, hy2⟩
        ·have : y ∈ s.out.take (s.pos q) ++ s.val q :: s.out.drop (s.pos q) := hy
         rcases List.mem_append.1 this with hy | hy
         ·exact .inl (List.mem_of_mem_take hy)
         ·rcases List.mem_cons.1 hy with rfl | hy
          ·exact .inr ⟨s.val_ge q, by simpa using hpt⟩
          ·exact .inl (List.mem_of_mem_drop hy)
        ·exact .inr ⟨Nat.le_trans (s.val_ge q) hy1, hy2⟩
       ·intro hn
        rw [g5 (Nat.le_trans hn (s.val_ge q))]
        show (s.out.take (s.pos q) ++ s.val q :: s.out.drop (s.pos q)).filter _ = s.out.filter _
        have := s.val_ge q
        rw [List.filter_append, List.filter_cons_of_neg (by simp; omega), <- List.filter_append, List.take_append_drop]
def zyh (P : List Nat) : List UInt8 := (zy3 P).map UInt8.ofNat ++ ((if zy3 P = [] then [] else [45]) ++ zz6 (zy4 P) 72 (zy3 P).length true)
theorem zyi (ds : List Nat) (bias done : Nat) (first : Bool) : ∀ b ∈ zz6 ds bias done first, b ≠ 45 := by
 intro b hb he
 obtain ⟨d, hd, rfl⟩ := z0a ds bias done first b hb
 have := zz2 ⟨d, hd⟩
 rw [show zzz (⟨d, hd⟩ : Fin 36).val = zzz d from rfl, he] at this
 simp at this
theorem zyj {x : Nat} (h : x < 128) : (UInt8.ofNat x).toNat = x := by
 rw [UInt8.toNat_ofNat']
 exact Nat.mod_eq_of_lt (by omega)
theorem zyk : ∀ (b : List Nat), (∀ x ∈ b, x < 128) -> (b.map UInt8.ofNat).map UInt8.toNat = b
 | [], _ => rfl
 | x :: b, h => by
   rw [List.map_cons, List.map_cons, zyj (h x (by simp)), zyk b (fun y hy => h y (by simp [hy]))]
theorem zyl (P : List Nat) : zx7 (zyh P) = (zy3 P).length /\ zyc (zyh P) = zz6 (zy4 P) 72 (zy3 P).length true /\ (zyh P).take (zy3 P).length = (zy3 P).map UInt8.ofNat := by
 have hno := zyi (zy4 P) 72 (zy3 P).length true
 have htk : (zyh P).take (zy3 P).length = (zy3 P).map UInt8.ofNat := by
  unfold zyh
  rw [List.take_left' (by simp)]
 by_cases hb : zy3 P = []
 ·have e : zyh P = zz6 (zy4 P) 72 (zy3 P).length true := by unfold zyh; rw [if_pos hb, hb]; rfl
  have hc : zx7 (zyh P) = 0 := by unfold zx7; rw [e, zx9 _ _ _ hno]
  refine ⟨by rw [hc, hb]; rfl, ?_, htk⟩
  unfold zyc
  rw [hc, if_neg (by omega), e]
 ·have e : zyh P = (zy3 P).map UInt8.ofNat ++ (45 :: zz6 (zy4 P) 72 (zy3 P).length true) := by unfold zyh; rw [if_neg hb]; rfl
  have hc : zx7 (zyh P) = (zy3 P).length := by
   unfold zx7
   rw [e, zx8, zx6, if_pos rfl, zx9 _ _ _ hno, List.length_map, Nat.zero_add]
  refine ⟨hc, ?_, htk⟩
  unfold zyc
  rw [hc, if_pos (List.length_pos_iff.2 hb), e, <- List.drop_drop, List.drop_left' (by simp)]
  rfl
theorem zym (P : List Nat) : (zyh P).any (fun b => decide (128 <= b.toNat)) = false := by
 rw [List.any_eq_false]
 intro b hb
 rw [decide_eq_true_iff]
 unfold zyh at hb
 rcases List.mem_append.1 hb with hb | hb
 ·obtain ⟨x, hx, rfl⟩ := List.mem_map.1 hb
  have := zzc P x hx
  rw [zyj this]
  omega
 ·rcases List.mem_append.1 hb with hb | hb
  ·split at hb
   ·simp at hb
   ·simp at hb
    subst hb
    decide
  ·obtain ⟨d, hd, rfl⟩ := z0a _ _ _ _ b hb
   have := zz2 ⟨d, hd⟩
   rw [show zzz (⟨d, hd⟩ : Fin 36).val = zzz d from rfl] at this
   omega
theorem zyn {P : List Nat} (hP : ∀ p ∈ P, ptN p = true) (hl : P.length <= 256) : (zy3 P).length + (zy4 P).length = P.length := by
 have h1 := (zzd hP hl).1
 have h2 := PSt.run_len (zy4 P) (PSt.start (zy3 P))
 rw [h1] at h2
 exact h2.symm
theorem zyo {b : List Nat} (h : ∀ x ∈ b, x < 128) : zy3 b = b := z0n (fun x hx => jT (h x hx))
theorem zyp {P : List Nat} (hP : ∀ p ∈ P, ptN p = true) (hl : P.length <= 256) (ht : (zyh P).length <= 1024) : zye (zyh P) = .ok P := by
 obtain ⟨c1, c2, c3⟩ := zyl P
 obtain ⟨r1, r2⟩ := zzd hP hl
 have hlen := zyn hP hl
 have hds : (zz6 (zy4 P) 72 (zy3 P).length true).length <= (zyh P).length := by unfold zyh; simp only [List.length_append]; omega
 unfold zye
 rw [if_neg (by omega), zym, if_neg (by simp), c1, if_neg (by omega), c2, c3, zyk _ (zzc P)]
 have := zyf (zy4 P) ((zyh P).length + 1) (PSt.start (zy3 P)) 72 true r2 (by show (zy3 P).length + _ <= _; omega) (by show (zz6 (zy4 P) 72 (zy3 P).length true).length < _; omega)
 rw [r1] at this
 exact this
theorem zyq {l : List UInt8} {p : List Nat} (h : zye l = .ok p) : (∀ x ∈ p, ptN x = true) /\ p.length <= 256 /\ (zyh p).length = l.length /\ zye (zyh p) = .ok p := by
 unfold zye at h
 split at h
 ·cases h
 ·rename_i h1024
  split at h
  ·cases h
  ·rename_i hascii
   split at h
   ·cases h
   ·rename_i h256
    have hb : ∀ x ∈ (l.take (zx7 l)).map UInt8.toNat, x < 128 := by
     intro x hx
     obtain ⟨b, hb, rfl⟩ := List.mem_map.1 hx
     rw [Bool.not_eq_true, List.any_eq_false] at hascii
     have := hascii b (List.mem_of_mem_take hb)
     rw [decide_eq_true_iff] at this
     omega
    have hbl : ((l.take (zx7 l)).map UInt8.toNat).length = zx7 l := by
     rw [List.length_map, List.length_take]
     by_cases hc : 0 < zx7 l
     ·have := zyb l hc; omega
     ·omega
    obtain ⟨ds, g1, g2, g3, g4, g5⟩ := zyg _ _ _ _ _ p h (by show ((l.take (zx7 l)).map UInt8.toNat).length <= 256; omega)
    generalize (l.take (zx7 l)).map UInt8.toNat = b at *
    have hpb : zy3 p = b := by
     rw [g5 jH]
     exact zyo hb
    have hP : ∀ x ∈ p, ptN x = true := by
     intro x hx
     rcases g4 x hx with hx | hx
     ·have := hb x hx
      unfold ptN
      simp
      omega
     ·exact hx.2
    obtain ⟨r1, r2⟩ := zzd hP g3
    have hu : zy4 p = ds := by
     refine PSt.unique _ _ (PSt.start (zy3 p)) (PSt.start_inv (zzc p)) ?_
     rw [r1, hpb, g2]
    have hlen : (zyh p).length = l.length := by
     have e1 : (zyc l).length = (zz6 ds 72 b.length true).length := by rw [<- List.length_map (f := zz4), g1]; rfl
     unfold zyh
     rw [hu, hpb]
     simp only [List.length_append, List.length_map]
     rw [<- e1]
     unfold zyc
     by_cases hc : 0 < zx7 l
     ·have hbne : b ≠ [] := List.length_pos_iff.1 (by omega)
      have := zyb l hc
      rw [if_neg hbne, if_pos hc, List.length_drop]
      simp
      omega
     ·have hbe : b = [] := List.eq_nil_of_length_eq_zero (by omega)
      rw [if_pos hbe, if_neg hc, hbe]
      simp
    exact ⟨hP, g3, hlen, zyp hP g3 (by omega)⟩
theorem zyr : ∀ (ds : List Nat) (s : PSt), s.Ok ds -> ∀ d ∈ ds, d < 10 ^ 11
 | [], _, _, d, h => by simp at h
 | v :: r, s, h, d, hd => by
   rcases List.mem_cons.1 hd with rfl | hd
   ·have := h.1
    have e : (10 : Nat) ^ 11 = 100000000000 := by decide
    omega
   ·exact zyr r _ h.2.2 d hd
theorem zys {P : List Nat} (hP : ∀ p ∈ P, ptN p = true) (hl : P.length <= 256) : (zyh P).length <= 12 * P.length + 1 := by
 have h1 := z0b 11 (zy4 P) 72 (zy3 P).length true (zyr _ _ (zzd hP hl).2)
 have h2 := zyn hP hl
 unfold zyh
 rw [List.length_append, List.length_append, List.length_map]
 split
 ·simp; omega
 ·simp; omega
def ptZ (z : Int) : Bool := decide (0 <= z) && ptN z.toNat
def zyt (Z : List Int) : Nat × List UInt8 := if 256 < Z.length then (3, []) else if Z.all ptZ = true then (0, zyh (Z.map Int.toNat)) else (2, [])
theorem zyu {Z : List Int} (h : Z.all ptZ = true) : (∀ p ∈ Z.map Int.toNat, ptN p = true) /\ (Z.map Int.toNat).map (fun n : Nat => (n : Int)) = Z := by
 rw [List.all_eq_true] at h
 refine ⟨?_, ?_⟩
 ·intro p hp
  obtain ⟨z, hz, rfl⟩ := List.mem_map.1 hp
  have := h z hz
  unfold ptZ at this
  simp at this
  exact this.2
 ·rw [List.map_map]
  conv => rhs; rw [<- List.map_id Z]
  refine List.map_congr_left fun z hz => ?_
  have := h z hz
  unfold ptZ at this
  simp at this ⊢
  omega
theorem zyv : ∀ (m d k : Nat), d <= 455 * 35 ^ m -> zzq d k <= k + 36 * m + 36
 | 0, d, k, h => by
   simp at h
   rw [zzq, if_neg (by omega)]
   have : 36 * d / (d + 38) <= 36 := by
    refine Nat.div_le_of_le_mul ?_
    rw [Nat.add_mul]
    omega
   omega
 | m + 1, d, k, h => by
   rw [zzq]
   split
   ·have := zyv m (d / 35) (k + 36) (by rw [Nat.pow_succ] at h; omega)
    omega
   ·have : 36 * d / (d + 38) <= 36 := by
     refine Nat.div_le_of_le_mul ?_
     rw [Nat.add_mul]
     omega
    omega
theorem zyw (delta n : Nat) (first : Bool) (h : delta <= 2199023255552) : adp delta n first <= 1000 := by
 unfold adp
 have h1 : (if first then delta / 700 else delta / 2) <= 1099511627776 := by split <;> omega
 have h2 := Nat.div_le_self (if first then delta / 700 else delta / 2) n
 have e : 455 * 35 ^ 7 = 29274380078125 := by decide
 have := zyv 7 _ 0 (show (if first then delta / 700 else delta / 2) + (if first then delta / 700 else delta / 2) / n <= 455 * 35 ^ 7 by omega)
 omega
theorem zyx : ∀ (l : List UInt8) (bias k w i c : Nat), z0c l bias k w i = .error c -> c ≠ 0
 | [], _, _, _, _, c, h => by injection h with h; omega
 | b :: l, bias, k, w, i, c, h => by
   rw [z0c] at h
   cases hp : zz0 b with
   | none => rw [hp] at h; injection h with h; omega
   | some d =>
     rw [hp] at h
     simp only at h
     split at h
     ·injection h with h; omega
     ·split at h
      ·cases h
      ·split at h
       ·injection h with h; omega
       ·exact zyx l _ _ _ _ c h
theorem zyy : ∀ (f : Nat) (l : List UInt8) (s : PSt) (bias : Nat) (first : Bool) (c : Nat), zyd f l s bias first = .error c -> c ≠ 0
 | 0, l, s, bias, first, c, h => by injection h with h; omega
 | f + 1, l, s, bias, first, c, h => by
   rw [zyd] at h
   split at h
   ·cases h
   ·split at h
    ·rename_i e hr
     injection h with h
     subst h
     exact zyx _ _ _ _ _ _ hr
    ·split at h
     ·injection h with h; omega
     ·split at h
      ·injection h with h; omega
      ·exact zyy f _ _ _ _ c h
theorem zyz {l : List UInt8} {c : Nat} (h : zye l = .error c) : c ≠ 0 := by
 unfold zye at h
 split at h
 ·injection h with h; omega
 ·split at h
  ·injection h with h; omega
  ·split at h
   ·injection h with h; omega
   ·exact zyy _ _ _ _ _ c h
theorem zy0 {P : List Nat} (hP : ∀ p ∈ P, ptN p = true) (hl : P.length <= 256) : zyt (P.map (fun n : Nat => (n : Int))) = (0, zyh P) := by
 have h1 : (P.map (fun n : Nat => (n : Int))).all ptZ = true := by
  rw [List.all_eq_true]
  intro z hz
  obtain ⟨p, hp, rfl⟩ := List.mem_map.1 hz
  unfold ptZ
  rw [jT (by omega)]
  exact hP p hp
 have h2 : (P.map (fun n : Nat => (n : Int))).map Int.toNat = P := by
  rw [List.map_map]
  conv => rhs; rw [<- List.map_id P]
  exact List.map_congr_left fun p _ => rfl
 unfold zyt
 rw [if_neg (by rw [List.length_map]; omega), if_pos h1, h2]
end

section
open Go.RowKit
set_option maxHeartbeats 16000000
def zbb (b : Int) : Bool := decide (65 <= b) && decide (b <= 90)
def zbc (b : Int) : Bool := decide (48 <= b) && decide (b <= 57)
def zbd (b : Int) : Int := bif zbb b then b + 32 else b
def zbe (c : UInt8) : Bool := zbc (c.toNat : Int)
def zbf (c : UInt8) : UInt8 := UInt8.ofNat (zbd (c.toNat : Int)).toNat
theorem zbg (b : Int) (h0 : 0 <= b) (h1 : b <= 255) : 0 <= zbd b /\ zbd b <= 255 := by
 unfold zbd zbb
 by_cases h : 65 <= b <;> by_cases h2 : b <= 90 <;> simp [h, h2] <;> omega
theorem zbh (c : UInt8) : ((zbf c).toNat : Int) = zbd (c.toNat : Int) := by
 have := zce c
 have h := zbg (c.toNat : Int) (by omega) (by omega)
 unfold zbf
 rw [UInt8.toNat_ofNat']
 omega
theorem zbi (b : Int) : zbd (zbd b) = zbd b := by
 unfold zbd zbb
 by_cases h : 65 <= b <;> by_cases h2 : b <= 90 <;> simp [h, h2]
 have h3 : ¬ (b + 32 <= 90) := by omega
 simp [h3]
theorem zbj (c : UInt8) : zbf (zbf c) = zbf c := by
 apply UInt8.toNat_inj.1
 have h := zbh (zbf c)
 rw [zbh c, zbi] at h
 have := zbh c
 omega
def zbk (l : List UInt8) : List UInt8 := l.map zbf
def zbl (s : ByteArray) : ByteArray := bs (zbk (ls s))
theorem zbm (l : List UInt8) : (zbk l).length = l.length := by simp [zbk]
theorem zbn (s : ByteArray) : (zbl s).size = s.size := by rw [zbl, zb5, zbm, zb4]
theorem zbo (l : List UInt8) : zbk (zbk l) = zbk l := by
 simp only [zbk, List.map_map]
 congr 1
 funext c
 exact zbj c
theorem zbp (a b : List UInt8) : zbk (a ++ b) = zbk a ++ zbk b := by simp [zbk]
def zbq (s : ByteArray) : Bool := (ls s).all zbe && !(ls s).isEmpty
theorem zbr (s : ByteArray) (k : Nat) (h : k < s.size) (hd : zbe s[k] = false) : zbq s = false := by
 unfold zbq
 have : (ls s).all zbe = false := by
  rw [List.all_eq_false]
  exact ⟨s[k], List.mem_of_getElem? (zb7 s k h), by rw [hd]; decide⟩
 rw [this]; rfl
theorem zbs (s : ByteArray) (h : ((ls s).take s.size).all zbe = true) : zbq s = !(ls s).isEmpty := by
 rw [zcb] at h
 unfold zbq
 rw [h]; rfl
theorem zbt (p : UInt8 -> Bool) (s : ByteArray) (k : Nat) (h : k < s.size) (ht : ((ls s).take k).all p = true) (hp : p s[k] = true) : ((ls s).take (k + 1)).all p = true := by
 rw [zca s k h, List.all_append, ht]
 simp [hp]
def sub (s : ByteArray) (a b : Nat) : List UInt8 := ((ls s).drop a).take (b - a)
theorem zbu (s : ByteArray) (a : Nat) : sub s a a = [] := by simp [sub]
theorem zbv (s : ByteArray) (a b : Nat) (hab : a <= b) (h : b < s.size) : sub s a (b + 1) = sub s a b ++ [s[b]] := by
 unfold sub
 rw [show b + 1 - a = (b - a) + 1 by omega, List.take_succ_eq_append_getElem (by rw [List.length_drop, zb4]; omega)]
 congr 1
 simp only [List.cons.injEq, and_true, List.getElem_drop]
 simp only [show a + (b - a) = b by omega]
 exact zb8 s b h _
theorem zbw (s : ByteArray) (a b : Nat) : s.extract a b = bs (sub s a b) := by
 apply zb2; rw [zb9, zb0]; rfl
end

end Go.Proofs.YtekaljeicfjkjaaGreatDoor
