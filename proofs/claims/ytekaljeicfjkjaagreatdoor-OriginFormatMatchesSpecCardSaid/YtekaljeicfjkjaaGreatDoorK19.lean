/-
The program's small functions of package url.
strings.IndexRune and strings.IndexAny at the bytes that end an authority.
strings.IndexAny at the bytes that end an authority, of any string.
The program's parseBracketed of package host.
min and max of two numbers. No program.
-/
import Derived.Test.YtekaljeicfjkjaaGreatDoorK17
import Derived.Test.YtekaljeicfjkjaaGreatDoorShelfC
import Derived.Shelf.Strings.IndexAnyAll
import Derived.Deep.LoopGhost
import Derived.Lib.OthersKept
import Derived.Test.YtekaljeicfjkjaaGreatDoorK16
import Derived.Test.YtekaljeicfjkjaaGreatDoorK00
namespace Go.Proofs.YtekaljeicfjkjaaGreatDoor
section
open Go.RowKit Go.Shelf
set_option maxHeartbeats 16000000
theorem z4d (s : ByteArray) : ∃ q1 q2 q3 q4 : Bool, (s.toList == ([104, 116, 116, 112] : List UInt8)) = q1 /\ (s.toList == ([119, 115] : List UInt8)) = q2 /\ (s.toList == ([104, 116, 116, 112, 115] : List UInt8)) = q3 /\ (s.toList == ([119, 115, 115] : List UInt8)) = q4 /\
 z6q (ls s) = (q1 || q2) /\ z6s (ls s) = (q1 || q2 || q3 || q4) /\ z6r (ls s) = (if (q1 || q2) = true then 80 else if (q3 || q4) = true then 443 else -1) /\ z6t (ls s) = (if q1 = true then z6o else z6p) := by
 refine ⟨_, _, _, _, rfl, rfl, rfl, rfl, ?_, ?_, ?_, ?_⟩ <;> rw [zb3] <;> rfl
theorem z4e (s : ByteArray) (w : World) : Calls Tryz.prog 38 #[.string s] w fun e w' => e = .returned (.int .i64 (z6r (ls s))) /\ w = w' := by
 obtain ⟨q1, q2, q3, q4, t1, t2, t3, t4, _, _, e, _⟩ := z4d s
 rw [e]
 clear e
 cases q1 with
 | true =>
   go_enter Tryz.func38, Tryz.ntmps38
   go_wp2
   go_ret
   exact ⟨rfl, rfl⟩
 | false => cases q2 with
   | true =>
     go_enter Tryz.func38, Tryz.ntmps38
     go_wp2
     go_ret
     exact ⟨rfl, rfl⟩
   | false => cases q3 with
     | true =>
       go_enter Tryz.func38, Tryz.ntmps38
       go_wp2
       go_ret
       exact ⟨rfl, rfl⟩
     | false => cases q4 with
       | true =>
         go_enter Tryz.func38, Tryz.ntmps38
         go_wp2
         go_ret
         exact ⟨rfl, rfl⟩
       | false =>
         go_enter Tryz.func38, Tryz.ntmps38
         go_wp2
         go_ret
         exact ⟨rfl, rfl⟩
theorem z4f (l : List UInt8) : (z6r l != -1) = z6s l := by
 unfold z6r z6s
 cases z6q l <;> cases (l == z6o) <;> cases (l == z6p) <;> rfl
theorem z4g (s : ByteArray) (w : World) : Calls Tryz.prog 14 #[.string s] w fun e w' => e = .returned (.bool (z6s (ls s))) /\ w = w' := by
 have c := z4e s w
 have e := z4f (ls s)
 generalize z6s (ls s) = q at *
 generalize z6r (ls s) = p at *
 go_enter Tryz.func14, Tryz.ntmps14
 go_wp2_with fail
 refine c.mono ?_
 rintro r w1 ⟨rfl, rfl⟩
 go_wp2
 go_ret
 exact ⟨rfl, rfl⟩
theorem z4h (b : UInt8) (w : World) : Calls Tryz.prog 77 #[.int .u8 (b.toNat : Int)] w fun e w' => e = .returned (.bool (z6v b)) /\ w = w' := by
 have hl : z6v b = (decide ((97 : Int) <= (b.toNat : Int)) && decide ((b.toNat : Int) <= 122) || decide ((65 : Int) <= (b.toNat : Int)) && decide ((b.toNat : Int) <= 90)) := by
  unfold z6v
  rw [Bool.eq_iff_iff]
  simp only [Bool.or_eq_true, Bool.and_eq_true, decide_eq_true_eq]
  omega
 rw [hl]
 obtain ⟨y, hy⟩ : ∃ y : Int, y = (b.toNat : Int) := ⟨_, rfl⟩
 have hb := zce b
 rw [<- hy] at hb ⊢
 have h0 : 0 <= y := by omega
 clear hl hy
 by_cases h1 : 97 <= y
 ·by_cases h2 : y <= 122
  ·go_enter Tryz.func77, Tryz.ntmps77
   go_wp2
   go_ret
   exact ⟨zbx (by simp [h1, h2]), rfl⟩
  ·have h3 : ¬ y <= 90 := by omega
   go_enter Tryz.func77, Tryz.ntmps77
   go_wp2
   go_ret
   exact ⟨zbx (by simp [h2, h3]), rfl⟩
 ·by_cases h2 : 65 <= y
  ·by_cases h3 : y <= 90
   ·go_enter Tryz.func77, Tryz.ntmps77
    go_wp2
    go_ret
    exact ⟨zbx (by simp), rfl⟩
   ·go_enter Tryz.func77, Tryz.ntmps77
    go_wp2
    go_ret
    exact ⟨zbx (by simp [h3]; omega), rfl⟩
  ·go_enter Tryz.func77, Tryz.ntmps77
   go_wp2
   go_ret
   exact ⟨zbx (by simp; omega), rfl⟩
theorem z4i (b : UInt8) (w : World) : Calls Tryz.prog 78 #[.int .u8 (b.toNat : Int)] w fun e w' => e = .returned (.bool (z6w b)) /\ w = w' := by
 have hq : ∀ c : UInt8, (b == c) = ((b.toNat : Int) == (c.toNat : Int)) := fun c => by
  rw [Bool.eq_iff_iff, beq_iff_eq, beq_iff_eq]
  constructor
  ·rintro rfl; rfl
  ·intro h; exact UInt8.toNat_inj.1 (by omega)
 have hl : z6w b = (decide ((48 : Int) <= (b.toNat : Int)) && decide ((b.toNat : Int) <= 57) || ((b.toNat : Int) == 43) || ((b.toNat : Int) == 45) || ((b.toNat : Int) == 46)) := by
  have e1 : decide (48 <= b.toNat) = decide ((48 : Int) <= (b.toNat : Int)) := decide_eq_decide.2 (by omega)
  have e2 : decide (b.toNat <= 57) = decide ((b.toNat : Int) <= 57) := decide_eq_decide.2 (by omega)
  unfold z6w
  rw [hq 43, hq 45, hq 46, e1, e2]
  rfl
 rw [hl]
 obtain ⟨y, hy⟩ : ∃ y : Int, y = (b.toNat : Int) := ⟨_, rfl⟩
 rw [<- hy]
 clear hl hy hq
 cases h1 : (y == 43) with
 | true =>
   go_enter Tryz.func78, Tryz.ntmps78
   go_wp2
   go_ret
   exact ⟨zbx (by simp), rfl⟩
 | false => cases h2 : (y == 45) with
   | true =>
     go_enter Tryz.func78, Tryz.ntmps78
     go_wp2
     go_ret
     exact ⟨zbx (by simp), rfl⟩
   | false => cases h3 : (y == 46) with
     | true =>
       go_enter Tryz.func78, Tryz.ntmps78
       go_wp2
       go_ret
       exact ⟨zbx (by simp), rfl⟩
     | false =>
       by_cases h4 : 48 <= y
       ·by_cases h5 : y <= 57
        ·go_enter Tryz.func78, Tryz.ntmps78
         go_wp2
         go_ret
         exact ⟨zbx (by simp [h4, h5]), rfl⟩
        ·go_enter Tryz.func78, Tryz.ntmps78
         go_wp2
         go_ret
         exact ⟨zbx (by simp [h5]), rfl⟩
       ·go_enter Tryz.func78, Tryz.ntmps78
        go_wp2
        go_ret
        exact ⟨zbx (by simp; omega), rfl⟩
theorem z4j (m : List UInt8) (b : UInt8) : z6x (m ++ [b]) = if m = [] then z6v b else z6x m && (z6v b || z6w b) := by
 cases m with
 | nil => simp [z6x]
 | cons a r =>
   rw [if_neg (by simp)]
   unfold z6x
   rw [List.cons_append]
   simp only [List.all_append, List.all_cons, List.all_nil, Bool.and_true, Bool.and_assoc]
theorem z4k {l : List UInt8} {k : Nat} (hk : k < l.length) (h1 : z6v l[k] = false) (h2 : k = 0 \/ z6w l[k] = false) : z6x l = false := by
 cases l with
 | nil => rfl
 | cons a r =>
   show (z6v a && r.all fun c => z6v c || z6w c) = false
   cases k with
   | zero =>
     rw [List.getElem_cons_zero] at h1
     rw [h1]
     rfl
   | succ k =>
     rw [List.getElem_cons_succ] at h1 h2
     rcases h2 with h2 | h2
     ·cases h2
     ·rw [Bool.and_eq_false_iff]
      right
      rw [List.all_eq_false]
      exact ⟨r[k]'(by simpa using hk), List.getElem_mem _, by rw [h1, h2]; simp⟩
theorem z4l (s : ByteArray) (w : World) (hs : s.size <= 1000000000) : Calls Tryz.prog 56 #[.string s] w fun e w' => e = .returned (.bool (z6x (ls s))) /\ w = w' := by
 go_enter Tryz.func56, Tryz.ntmps56
 go_wp2
 go_loop [6] (fun i => ∃ k : Nat, k <= s.size /\ i = .int .i64 k /\ Hid (k = 0 \/ z6x ((ls s).take k) = true)) (fun i => s.size - (intOf i).toNat)
 case atStart => exact ⟨0, Nat.zero_le _, rfl, jL (.inl rfl)⟩
 case round =>
  obtain ⟨k, hk, rfl, HK⟩ := hrel
  by_cases hlt : k < s.size
  ·have cL := fun W => z4h s[k] W
   have cF := fun W => z4i s[k] W
   have hsn := z4j ((ls s).take k) s[k]
   rw [<- zca s k hlt] at hsn
   have hnil : (ls s).take k = [] ↔ k = 0 := by
    rw [List.take_eq_nil_iff]
    constructor
    ·rintro (h | h)
     ·exact h
     ·have := zb4 s; rw [h] at this; simp at this; omega
    ·exact .inl
   cases hl : z6v s[k] with
   | true =>
     have HN : Hid (k + 1 = 0 \/ z6x ((ls s).take (k + 1)) = true) := by
      refine jL (.inr ?_)
      rw [hsn]
      split
      ·exact hl
      ·rename_i h
       rcases HK.out with h0 | h0
       ·exact absurd (hnil.2 h0) h
       ·rw [h0, hl]; rfl
     rw [hl] at cL
     clear hsn hnil hl cF
     go_wp2_with (go_at_call 77; refine (cL _).mono ?_; rintro e w' ⟨rfl, rfl⟩)
     go_round
     case rel => exact ⟨k + 1, hlt, by go_num, HN⟩
     case measure => simp [intOf]; omega
   | false =>
     rw [hl] at cL
     by_cases h0 : k = 0
     ·have HB := jL (z4k (l := ls s) (k := k) (by rw [zb4]; exact hlt) hl (.inl h0))
      have hq : ((k : Int) == 0) = true := by rw [h0]; rfl
      clear hsn hnil hl cF h0
      go_wp2_with (go_at_call 77; refine (cL _).mono ?_; rintro e w' ⟨rfl, rfl⟩)
      go_ret
      exact ⟨zbx HB.out.symm, rfl⟩
     ·have hq : ((k : Int) == 0) = false := by rw [beq_eq_false_iff_ne]; omega
      cases hf : z6w s[k] with
      | true =>
        have HN : Hid (k + 1 = 0 \/ z6x ((ls s).take (k + 1)) = true) := by
         refine jL (.inr ?_)
         rw [hsn, if_neg (fun h => h0 (hnil.1 h))]
         rcases HK.out with h9 | h9
         ·exact absurd h9 h0
         ·rw [h9, hf]; simp
        rw [hf] at cF
        clear hsn hnil hl h0 hf
        go_wp2_with (first | (go_at_call 77; refine (cL _).mono ?_; rintro e w' ⟨rfl, rfl⟩) | (go_at_call 78; refine (cF _).mono ?_; rintro e w' ⟨rfl, rfl⟩))
        go_round
        case rel => exact ⟨k + 1, hlt, by go_num, HN⟩
        case measure => simp [intOf]; omega
      | false =>
        have HB := jL (z4k (l := ls s) (k := k) (by rw [zb4]; exact hlt) hl (.inr hf))
        rw [hf] at cF
        clear hsn hnil hl h0 hf
        go_wp2_with (first | (go_at_call 77; refine (cL _).mono ?_; rintro e w' ⟨rfl, rfl⟩) | (go_at_call 78; refine (cF _).mono ?_; rintro e w' ⟨rfl, rfl⟩))
        go_ret
        exact ⟨zbx HB.out.symm, rfl⟩
  ·obtain rfl : k = s.size := by omega
   have HB : Hid (z6x (ls s) = !s.toList.isEmpty) := by
    refine jL ?_
    rw [zb3]
    have h := HK.out
    rw [zcb] at h
    rcases h with h | h
    ·have : ls s = [] := List.length_eq_zero_iff.1 (by rw [zb4]; exact h)
     rw [this]; rfl
    ·rw [h]
     cases hl : ls s with
     | nil => rw [hl] at h; cases h
     | cons a r => rfl
   have hbe : (s.toList == ([] : List UInt8)) = s.toList.isEmpty := by cases s.toList <;> rfl
   clear hk hlt HK
   go_wp2
   go_ret
   refine ⟨zbx ?_, rfl⟩
   rw [HB.out]
theorem z4m (x : Int) (_h0 : 0 <= x) (_h1 : x <= 1114111) (w : World) : Calls Tryz.prog 54 #[.int .i32 x] w fun e w' => e = .returned (.bool (decide (x <= 32) || x == 127)) /\ w' = w := by
 by_cases h : x <= 32
 ·go_enter Tryz.func54, Tryz.ntmps54
  go_wp2
  go_ret
  exact ⟨zbx (by simp [h]), rfl⟩
 ·cases hq : (x == 127) with
  | true =>
    go_enter Tryz.func54, Tryz.ntmps54
    go_wp2
    go_ret
    exact ⟨zbx (by simp), rfl⟩
  | false =>
    go_enter Tryz.func54, Tryz.ntmps54
    go_wp2
    go_ret
    exact ⟨zbx (by simp [h]), rfl⟩
def exN (n : Nat) : Bool := decide (n <= 32) || n == 127
theorem z4n (s : ByteArray) (w : World) (_hs : s.size <= 1000000000) : Calls Tryz.prog 53 #[.string s, .func (.func 54) #[] #[]] w fun e w' => e = .returned (.bool ((ls s).any z6u)) /\ Below w.heap.size w w' := by
 have c := Any.strings_ContainsFunc_runes Tryz.laysGw17 54 #[] (enters_of Tryz.func54 (by kernel_rfl) rfl) exN s w (fun W x hx _ => by
  refine (z4m (x : Int) (by omega) (by omega) W).mono ?_
  rintro e w' ⟨rfl, rfl⟩
  refine ⟨zbx ?_, 0, rfl⟩
  unfold exN
  rw [Bool.eq_iff_iff]
  simp only [Bool.or_eq_true, decide_eq_true_eq, beq_iff_eq]
  omega)
 have e := z45 exN z6u (fun b _ => by
  unfold exN z6u
  rw [Bool.eq_iff_iff]
  simp only [Bool.or_eq_true, decide_eq_true_eq, beq_iff_eq]
  constructor
  ·rintro (h | h)
   ·exact .inl h
   ·exact .inr (UInt8.toNat_inj.1 (by rw [h]; rfl))
  ·rintro (h | h)
   ·exact .inl h
   ·rw [h]; exact .inr rfl) (fun n hn => by unfold exN; simp; omega) (fun b hb => by
  unfold z6u
  rw [Bool.or_eq_false_iff]
  refine ⟨jF (by omega), ?_⟩
  rw [beq_eq_false_iff_ne]
  rintro rfl
  revert hb
  decide) s s.size 0 (by omega)
 rw [List.drop_zero] at e
 rw [<- e]
 exact c
end

section
open Go.RowKit Go.Shelf
set_option maxHeartbeats 16000000
def z4o : ByteArray := ⟨#[47, 63, 35]⟩
theorem z4p (k : Nat) (h : k < 3) : (z4o[k]'h).toNat < 128 /\ (((z4o[k]'h).toNat : Int) == 65533) = false := by
 have key : ∀ m : Fin 3, (z4o[m.val]'(m.isLt)).toNat < 128 /\ (((z4o[m.val]'(m.isLt)).toNat : Int) == 65533) = false := by decide +kernel
 exact key ⟨k, h⟩
theorem z4q {P : Program} {f : FuncId} {args : Array Value} {w : World} {n : Nat} {v : Value}
 (h : Calls P f args (w.drewN n) fun e w' => e = .returned v /\ w.drewN n = w') : Calls P f args (w.drewN n) fun e w'' => e = .returned v /\ ∃ m, w'' = w.drewN m :=
 h.mono fun _ _ ⟨he, hm⟩ => ⟨he, n, hm.symm⟩
theorem z4r {P : Program} {f : FuncId} {args : Array Value} {w : World} {q n : Nat} {v : Value}
 (h : Calls P f args (w.drewN (q + n)) fun e w' => e = .returned v /\ w.drewN (q + n) = w') : Calls P f args (w.drewN (q + n)) fun e w'' => e = .returned v /\ ∃ m, w'' = w.drewN (q + m) :=
 h.mono fun _ _ ⟨he, hm⟩ => ⟨he, n, hm.symm⟩
theorem z4s (r : Int) (h0 : 128 <= r) (hv : Utf8.valid r = true) (w : World) : Calls Tryz.prog 171 #[.int .i32 r] w fun e w' => e = .returned (.bool true) /\ w = w' := by
 have h1 : r < 55296 \/ (57343 < r /\ r <= 1114111) := by
  unfold Utf8.valid at hv
  simp only [Bool.or_eq_true, Bool.and_eq_true, decide_eq_true_eq] at hv
  omega
 have h9 : 0 <= r := by omega
 clear hv
 rcases h1 with h1 | ⟨h1, h2⟩
 ·go_enter Tryz.func171, Tryz.ntmps171
  go_wp2
  go_ret
  exact ⟨rfl, rfl⟩
 ·have h3 : ¬ r < 55296 := by omega
  go_enter Tryz.func171, Tryz.ntmps171
  go_wp2
  go_ret
  exact ⟨rfl, rfl⟩
set_option maxRecDepth 100000 in
theorem z4t (w : World) : Calls Tryz.prog 136 #[.string ⟨#[47, 63, 35]⟩, .int .i32 65533] w fun e w' => e = .returned (.int .i64 (-1)) /\ Below w.heap.size w w' := by
 have hS : (⟨#[47, 63, 35]⟩ : ByteArray) = z4o := rfl
 rw [hS]
 have hsz : z4o.size = 3 := rfl
 have hat := z4p
 go_enter Tryz.func136, Tryz.ntmps136
 go_wp2
 go_loopg [5, 6] 3 (fun g _ _ wx => ∃ i : Nat, i + g = 3 /\ wx = w.iter z4o i)
 case atStart => exact ⟨0, rfl, rfl⟩
 case round =>
  obtain ⟨i, hig, rfl⟩ := hrel
  cases gk with
  | zero =>
    obtain rfl : i = 3 := by omega
    have hnx := run_next_end (P := Tryz.prog) w z4o 3
    rw [show ¬ 3 < z4o.size ↔ True by rw [hsz]; simp] at hnx
    go_wp2
    go_ret
    exact ⟨rfl, (Below.refl _ _).alloc jH _⟩
  | succ g =>
    have hi : i < 3 := by omega
    obtain ⟨h1, h2⟩ := hat i hi
    have hnx := fun ty => run_next_ascii (P := Tryz.prog) w z4o i ty (by rw [hsz]; exact hi) h1
    obtain ⟨y, hy⟩ : ∃ y : Int, y = ((z4o[i]'(by rw [hsz]; exact hi)).toNat : Int) := ⟨_, rfl⟩
    simp only [<- hy] at hnx
    have h3 : (y == 65533) = false := by rw [hy]; exact h2
    clear hy h1 h2 hat
    go_wp2
    go_roundg g
    case rel => exact ⟨i + 1, by omega, rfl⟩
    case measure => omega
theorem z4u (S : ByteArray) (c : UInt8) (w : World) : Calls Tryz.prog 108 #[.string S, .int .u8 (c.toNat : Int)] w fun e w' => e = .returned (.int .i64 (Lib.indexByte (ls S) c)) /\ w = w' := by
 have h := Any.strings_IndexByte Tryz.lays137 S (c.toNat : Int) w
 rw [show ((c.toNat : Int)).toNat.toUInt8 = c by simp] at h
 exact h.mono fun _ _ ⟨h1, h2⟩ => ⟨h1, h2.symm⟩
theorem z4v {S : ByteArray} {c : UInt8} (h : ∀ b ∈ ls S, b ≠ c) : Lib.indexByte (ls S) c = -1 := by
 rcases zc9 c (ls S) with ⟨h1, _, _⟩ | ⟨r, h1, _⟩
 ·exact h1
 ·exfalso
  have hm : c ∈ ls S := by rw [<- zcz (isB c) (ls S), h1]; simp
  exact h c hm rfl
set_option maxRecDepth 100000 in
theorem z4w (r : Int) (h0 : 128 <= r) (hv : Utf8.valid r = true) (hne : (r == 65533) = false) (w : World) : Calls Tryz.prog 136 #[.string ⟨#[47, 63, 35]⟩, .int .i32 r] w fun e w' => e = .returned (.int .i64 (-1)) /\ Below w.heap.size w w' := by
 have cv := fun W => z4s r h0 hv W
 obtain ⟨f1, f2, f3⟩ := encode_facts r hv h0
 have h1 : ¬ r < 128 := by omega
 have h2 : 0 <= r := by omega
 obtain ⟨T, hT⟩ : ∃ T, T = Utf8.encode r := ⟨_, rfl⟩
 rw [<- hT] at f1 f2
 have f3' : ∀ h : T.size - 1 < T.size, 128 <= (T[T.size - 1]'h).toNat := by rw [hT]; exact f3
 clear f3
 have HT := jL hT
 clear hT hv
 have hcase : T.size = 2 \/ T.size = 3 \/ T.size = 4 := by omega
 rcases hcase with hz | hz | hz
 ·have k1 : 1 < T.size := by omega
  have g1 : 128 <= (T[1]'k1).toNat := by
   have e : T.size - 1 = 1 := by omega
   have := f3' (by omega)
   simp only [e] at this
   exact this
  obtain ⟨c, hc⟩ : ∃ c, c = T[1]'k1 := ⟨_, rfl⟩
  rw [<- hc] at g1
  rw [show (⟨#[47, 63, 35]⟩ : ByteArray) = z4o from rfl]
  have hsz : z4o.size = 3 := rfl
  have ci := fun W => z4u (z4o.extract 2 3) c W
  have hn : Lib.indexByte (ls (z4o.extract 2 3)) c = -1 := z4v (fun b hb => by
   have e : ls (z4o.extract 2 3) = [35] := by decide +kernel
   rw [e] at hb
   have : b = 35 := by simpa using hb
   rw [this]
   rintro rfl
   revert g1
   decide)
  simp only [hn] at ci
  obtain ⟨y, hy⟩ : ∃ y : Int, y = ((z4o[1]'(by decide)).toNat : Int) := ⟨_, rfl⟩
  have hy63 : y = 63 := hy.trans (by decide +kernel)
  have hq2 : (y != (c.toNat : Int)) = true := by rw [bne, beq_eq_false_iff_ne.2 (by omega)]; rfl
  have w2 : IntKind.i64.wrap 2 = 2 := by decide +kernel
  clear hy63
  have HY := jL hy
  have HC := jL hc
  clear hy
  clear hc hn f3' f1 f2 g1
  go_enter Tryz.func136, Tryz.ntmps136
  go_wp2_with (go_at_call 171; refine (cv _).mono ?_; rintro e w' ⟨rfl, rfl⟩)
  go_step3
  go_upto_region 2 with fail
  rw [<- HT.out]
  clear HT
  have t1 : (T[1]'k1) = c := HC.out.symm
  have t2 : (((z4o[1]'(by decide)).toNat : Int)) = y := HY.out.symm
  go_wp2
  go_loopg [9, 10, 11] 0 (fun g i f _ wx => g = 0 /\ i = .int .i64 1 /\ f = .int .i64 0 /\ wx = w)
  case atStart => exact ⟨rfl, rfl, rfl, rfl⟩
  case round =>
   obtain ⟨_, rfl, rfl, rfl⟩ := hrel
   go_wp2
   go_step3
   go_upto_region 6 with fail
   go_quiet (fail)
   go_upto_region 7 with fail
   go_quiet ((go_at_call 108; exact z4r (ci _)))
   go_wp2
   rw [Exit.noGoto_ret]
   try simp only [Exit.inBlock, Exit.then, Exit.noGoto]
   go_ret
   exact ⟨rfl, by first | exact below_drewN _ _ | exact Below.refl _ _⟩
 ·have k1 : 2 < T.size := by omega
  have g1 : 128 <= (T[2]'k1).toNat := by
   have e : T.size - 1 = 2 := by omega
   have := f3' (by omega)
   simp only [e] at this
   exact this
  obtain ⟨c, hc⟩ : ∃ c, c = T[2]'k1 := ⟨_, rfl⟩
  rw [<- hc] at g1
  rw [show (⟨#[47, 63, 35]⟩ : ByteArray) = z4o from rfl]
  have hsz : z4o.size = 3 := rfl
  have ci := fun W => z4u (z4o.extract 3 3) c W
  have hn : Lib.indexByte (ls (z4o.extract 3 3)) c = -1 := z4v (fun b hb => by
   have e : ls (z4o.extract 3 3) = [] := by decide +kernel
   rw [e] at hb
   cases hb)
  simp only [hn] at ci
  obtain ⟨y, hy⟩ : ∃ y : Int, y = ((z4o[2]'(by decide)).toNat : Int) := ⟨_, rfl⟩
  have hy35 : y = 35 := hy.trans (by decide +kernel)
  have hq2 : (y != (c.toNat : Int)) = true := by rw [bne, beq_eq_false_iff_ne.2 (by omega)]; rfl
  have w2 : IntKind.i64.wrap 3 = 3 := by decide +kernel
  clear hy35
  have HY := jL hy
  have HC := jL hc
  clear hy
  clear hc hn f3' f1 f2 g1
  go_enter Tryz.func136, Tryz.ntmps136
  go_wp2_with (go_at_call 171; refine (cv _).mono ?_; rintro e w' ⟨rfl, rfl⟩)
  go_step3
  go_upto_region 2 with fail
  rw [<- HT.out]
  clear HT
  have t1 : (T[2]'k1) = c := HC.out.symm
  have t2 : (((z4o[2]'(by decide)).toNat : Int)) = y := HY.out.symm
  go_wp2
  go_loopg [9, 10, 11] 0 (fun g i f _ wx => g = 0 /\ i = .int .i64 2 /\ f = .int .i64 0 /\ wx = w)
  case atStart => exact ⟨rfl, rfl, rfl, rfl⟩
  case round =>
   obtain ⟨_, rfl, rfl, rfl⟩ := hrel
   go_wp2
   go_step3
   go_upto_region 6 with fail
   go_quiet (fail)
   go_upto_region 7 with fail
   go_quiet ((go_at_call 108; exact z4r (ci _)))
   go_wp2
   rw [Exit.noGoto_ret]
   try simp only [Exit.inBlock, Exit.then, Exit.noGoto]
   go_ret
   exact ⟨rfl, by first | exact below_drewN _ _ | exact Below.refl _ _⟩
 ·have k1 : 3 < T.size := by omega
  rw [show (⟨#[47, 63, 35]⟩ : ByteArray) = z4o from rfl]
  have hsz : z4o.size = 3 := rfl
  clear f3' f1 f2
  go_enter Tryz.func136, Tryz.ntmps136
  go_wp2_with (go_at_call 171; refine (cv _).mono ?_; rintro e w' ⟨rfl, rfl⟩)
  go_step3
  go_upto_region 2 with fail
  rw [<- HT.out]
  clear HT
  go_wp2
  go_loopg [9, 10, 11] 0 (fun g i f _ wx => g = 0 /\ i = .int .i64 3 /\ f = .int .i64 0 /\ wx = w)
  case atStart => exact ⟨rfl, rfl, rfl, rfl⟩
  case round =>
   obtain ⟨_, rfl, rfl, rfl⟩ := hrel
   go_wp2
   rw [Exit.noGoto_ret]
   try simp only [Exit.inBlock]
   go_ret
   exact ⟨rfl, by first | exact below_drewN _ _ | exact Below.refl _ _⟩
end

section
open Go.RowKit Go.Shelf
set_option maxHeartbeats 16000000
theorem z4x (r : Int) (h0 : 128 <= r) (hv : Utf8.valid r = false) (w : World) : Calls Tryz.prog 171 #[.int .i32 r] w fun e w' => e = .returned (.bool false) /\ w = w' := by
 have h1 : (55296 <= r /\ r <= 57343) \/ 1114111 < r := by
  unfold Utf8.valid at hv
  simp only [Bool.or_eq_false_iff, Bool.and_eq_false_iff, decide_eq_false_iff_not] at hv
  omega
 have h9 : 0 <= r := by omega
 clear hv
 have h3 : ¬ r < 55296 := by omega
 by_cases h2 : 57343 < r
 ·have h4 : ¬ r <= 1114111 := by omega
  go_enter Tryz.func171, Tryz.ntmps171
  go_wp2
  go_ret
  exact ⟨rfl, rfl⟩
 ·go_enter Tryz.func171, Tryz.ntmps171
  go_wp2
  go_ret
  exact ⟨rfl, rfl⟩
set_option maxRecDepth 100000 in
theorem z4y (r : Int) (h0 : 128 <= r) (w : World) : Calls Tryz.prog 136 #[.string z4o, .int .i32 r] w fun e w' => e = .returned (.int .i64 (-1)) /\ Below w.heap.size w w' := by
 by_cases he : r = 65533
 ·subst he
  exact z4t w
 have hne : (r == 65533) = false := by rw [beq_eq_false_iff_ne]; exact he
 cases hv : Utf8.valid r with
 | true => exact z4w r h0 hv hne w
 | false =>
   have cv := fun W => z4x r h0 hv W
   have h1 : ¬ r < 128 := by omega
   have h2 : 0 <= r := by omega
   clear hv
   go_enter Tryz.func136, Tryz.ntmps136
   go_wp2_with (go_at_call 171; refine (cv _).mono ?_; rintro e w' ⟨rfl, rfl⟩)
   go_ret
   exact ⟨rfl, Below.refl _ _⟩
theorem z4z (s : ByteArray) (w : World) (h8 : 8 < s.size) (hs : s.size <= 1000000000) : Calls Tryz.prog 106 #[.string s, .string z4o] w fun e w' => e = .returned (.int .i64 (Lib.indexAny (ls s) (ls z4o))) /\ Below w.heap.size w w' := by
 have h := fun h116 => Any.strings_IndexAny_long Tryz.lays153 (zero_of_info h116).1 (zero_of_info h116).2 s z4o w (by decide) h8 (by omega) (by decide) (by
  intro j b hj
  have : b ∈ z4o.data.toList := List.mem_of_getElem? hj
  have e : z4o.data.toList = [47, 63, 35] := rfl
  rw [e] at this
  simp at this
  rcases this with rfl | rfl | rfl <;> decide)
 refine (h (by kernel_rfl)).mono ?_
 rintro e w' ⟨h1, rfl⟩
 exact ⟨h1, ((Below.refl _ _).alloc jH _).alloc (by simp) _⟩
theorem z40 {s chars : List UInt8} {i n : Nat} (h : Lib.NoAny s chars i) (h2 : ∀ (j : Nat) b, i <= j -> j < i + n -> s[j]? = some b -> chars.contains b = false) : Lib.NoAny s chars (i + n) := by
 intro j b hj hb
 by_cases h3 : j < i
 ·exact h j b h3 hb
 ·exact h2 j b (by omega) hj hb
set_option maxRecDepth 100000 in
theorem z41 (s : ByteArray) (w : World) (h8 : s.size <= 8) : Calls Tryz.prog 106 #[.string s, .string z4o] w fun e w' => e = .returned (.int .i64 (Lib.indexAny (ls s) (ls z4o))) /\ Below w.heap.size w w' := by
 have hsz : z4o.size = 3 := rfl
 have hemp : z4o.toList.isEmpty = false := by
  rw [Lib.toList_data]
  rfl
 have c8 := fun W => Any.strings_shouldUseASCIISet Tryz.lays226 (s.size : Int) W
 rw [show decide ((8 : Int) < (s.size : Int)) = false from jF (by omega)] at c8
 go_enter Tryz.func106, Tryz.ntmps106
 go_wp2_with (go_at_call 137; refine (c8 _).mono ?_; rintro e w' ⟨rfl, hw⟩; rw [hw])
 go_loopg [9, 10] s.size (fun g _ _ wx => ∃ i : Nat, i + g = s.size /\ wx.heap[w.heap.size]? = some (.stringIter s i) /\ Below w.heap.size w wx /\ Lib.NoAny (ls s) (ls z4o) i)
 case atStart => exact ⟨0, by omega, World.iter_heap _ _ _, (Below.refl _ _).alloc jH _, Lib.NoAny.zero _ _⟩
 case round =>
  obtain ⟨i, hig, hit, hbel, hno⟩ := hrel
  have HN := jL hno
  clear hno
  cases gk with
  | zero =>
    obtain rfl : i = s.size := by omega
    have hnx := fun ty => Lib.run_next_end_at (P := Tryz.prog) wr w.heap.size s s.size ty hit (by omega)
    have HB := jL hbel
    clear hbel hit
    have hz : Lib.indexAny (ls s) (ls z4o) = -1 := Lib.indexAny_none (by rw [show (ls s).length = s.size from Lib.size_eq s ▸ rfl]; exact HN.out)
    go_wp2
    go_ret
    exact ⟨by rw [hz]; rfl, HB.out⟩
  | succ g =>
    have hi : i < s.size := by omega
    have hnx := fun ty => Lib.run_next_any_at (P := Tryz.prog) wr w.heap.size s i ty hit hi
    have hit2 := Lib.iterAt_heap wr w.heap.size s i (i + (Utf8.decode s i).2) hit
    have hb2 : Below w.heap.size w (wr.iterAt w.heap.size s (i + (Utf8.decode s i).2)) := hbel.trans ⟨rfl, rfl, rfl, by rw [Lib.iterAt_size]; exact jH, fun j hj => by rw [Lib.iterAt_other _ _ _ _ _ (by omega)]⟩
    have hxl : (ls s)[i]? = some (s[i]'hi) := Lib.data_getElem? s i hi
    have hd := z44 s i hi
    obtain ⟨W, hW⟩ : ∃ W, W = wr.iterAt w.heap.size s (i + (Utf8.decode s i).2) := ⟨_, rfl⟩
    rw [<- hW] at hit2 hb2
    simp only [<- hW] at hnx
    obtain ⟨r, hr⟩ : ∃ r : Nat, r = (Utf8.decode s i).1 := ⟨_, rfl⟩
    obtain ⟨n, hn⟩ : ∃ n : Nat, n = (Utf8.decode s i).2 := ⟨_, rfl⟩
    obtain ⟨x, hx⟩ : ∃ x : UInt8, x = s[i]'hi := ⟨_, rfl⟩
    rw [<- hn] at hit2
    simp only [<- hr] at hnx
    rw [<- hx] at hxl
    clear hW hit hbel
    rcases hd with ⟨hd1, hd2⟩ | ⟨hd1, hd2, hd3, hd4, hd5⟩
    ·have hr' : r = x.toNat := by rw [hr, hd2, hx]
     have hn' : n = 1 := by rw [hn, hd2]
     rw [<- hx] at hd1
     subst hr'
     subst hn'
     have hcon := Lib.contains_iff_indexByte (ls z4o) x
     have hback : ((x.toNat : Int)).toNat.toUInt8 = x := by simp
     have ci := fun W => Any.strings_IndexRune_ascii Tryz.lays152 z4o (x.toNat : Int) W (by omega) (by omega)
     simp only [hback] at ci
     obtain ⟨z, hz⟩ : ∃ z : Int, z = Lib.indexByte z4o.data.toList x := ⟨_, rfl⟩
     simp only [<- hz] at ci
     have hcon' : (ls z4o).contains x = decide (0 <= z) := by rw [hz]; exact hcon
     have HX := jL hxl
     have HI := jL hit2
     have HB := jL hb2
     have HC := jL hcon'
     clear hcon hcon' hxl hit2 hb2 hx hr hn hd1 hd2 hz hback
     by_cases hz0 : 0 <= z
     ·have HZ : Hid (Lib.indexAny (ls s) (ls z4o) = (i : Int)) := jL (Lib.indexAny_hit HN.out HX.out (by rw [HC.out]; simpa using hz0))
      go_wp2_with (go_at_call 136; refine (ci _).mono ?_; rintro e w' ⟨rfl, hw⟩; rw [hw])
      go_ret
      exact ⟨by rw [HZ.out]; rfl, HB.out⟩
     ·have HM : Hid (Lib.NoAny (ls s) (ls z4o) (i + 1)) := jL (HN.out.succ HX.out (by rw [HC.out]; simpa using hz0))
      go_wp2_with (go_at_call 136; refine (ci _).mono ?_; rintro e w' ⟨rfl, hw⟩; rw [hw])
      go_roundg g
      case rel => exact ⟨i + 1, by omega, HI.out, HB.out, HM.out⟩
      case measure => omega
    ·rw [<- hr] at hd2
     rw [<- hn] at hd3 hd4 hd5
     have ci := fun W => z4y (r : Int) (by omega) W
     have hno2 : Lib.NoAny (ls s) (ls z4o) (i + n) := z40 HN.out (by
      intro j b h1 h2 h3
      have hj : j < s.size := by omega
      have h4 : (ls s)[j]? = some (s[j]'hj) := Lib.data_getElem? s j hj
      rw [h3] at h4
      have h5 := hd5 j hj h1 h2
      rw [<- Option.some.inj h4] at h5
      show ([47, 63, 35] : List UInt8).contains b = false
      rw [Bool.eq_false_iff]
      intro h6
      simp at h6
      rcases h6 with rfl | rfl | rfl <;> exact absurd h5 (by decide))
     have HM := jL hno2
     have HI := jL hit2
     have HB := jL hb2
     have hsz2 := (Array.getElem?_eq_some_iff.1 hit2).1
     clear hno2 hit2 hb2 hx hr hn hd1 hd5 hxl
     go_wp2_with (go_at_call 136; refine (ci _).mono ?_; rintro e w' ⟨rfl, hw⟩)
     go_roundg (s.size - (i + n))
     case rel => exact ⟨i + n, by omega, by rw [hw.block _ (by omega)]; exact HI.out, HB.out.trans (hw.mono (by omega)), HM.out⟩
     case measure => omega
theorem z42 (s : ByteArray) (w : World) (hs : s.size <= 1000000000) : Calls Tryz.prog 106 #[.string s, .string ⟨#[47, 63, 35]⟩] w fun e w' => e = .returned (.int .i64 (Lib.indexAny (ls s) [47, 63, 35])) /\ Below w.heap.size w w' := by
 by_cases h : s.size <= 8
 ·exact z41 s w h
 ·exact z4z s w (by omega) hs
end

section
open Go.RowKit Go.Shelf
set_option maxHeartbeats 16000000
theorem zek (c : UInt8) (l : List UInt8) : [c].isSuffixOf l = decide (l.getLast? = some c) := by
 rw [Bool.eq_iff_iff, List.isSuffixOf_iff_suffix, decide_eq_true_iff]
 constructor
 ·rintro ⟨t, rfl⟩
  simp
 ·intro h
  obtain ⟨m, rfl⟩ := List.getLast?_eq_some_iff.1 h
  exact ⟨m, rfl⟩
theorem zel : ∀ (g : List Nat), g.length = 8 -> ∃ a b c d e f i j, g = [a, b, c, d, e, f, i, j]
 | [a, b, c, d, e, f, i, j], _ => ⟨a, b, c, d, e, f, i, j, rfl⟩
theorem zem {l : List UInt8} : (zkn (znu l)).length = 8 := by
 cases h : znu l with
 | none => rfl
 | some g => exact (ziu h).1
theorem zen (s : ByteArray) (w : World) (hs : s.size <= 1000000000) : Calls Tryz.prog 142 #[.string s, .string ⟨#[93]⟩] w fun e w' =>
 e = .returned (.tuple #[.string (if (ls s).getLast? = some 93 then bs (ls s).dropLast else s), .bool (decide ((ls s).getLast? = some 93))]) /\ w' = w := by
 have c := Any.strings_CutSuffix Tryz.lays104 s ⟨#[93]⟩ w (by omega)
 have e : Lib.hasSuffix s.data.toList (⟨#[93]⟩ : ByteArray).data.toList = decide ((ls s).getLast? = some 93) := zek 93 (ls s)
 unfold Lib.trimSuffix at c
 rw [e] at c
 refine c.mono ?_
 rintro r w' ⟨rfl, rfl⟩
 refine ⟨?_, rfl⟩
 by_cases h : (ls s).getLast? = some 93
 ·rw [jT h, if_pos rfl, if_pos h]
  have e2 : s.data.toList.take (s.data.toList.length - (⟨#[93]⟩ : ByteArray).data.toList.length) = (ls s).dropLast := by rw [List.dropLast_eq_take]; rfl
  rw [e2]
  rfl
 ·rw [jF h, if_neg (by simp), if_neg h]
set_option maxRecDepth 20000 in
theorem zeo (hP : zeg 143) (s : ByteArray) (w : World) (hs : s.size <= 1000000000) (hpw : zw5 w) : Calls Tryz.prog 109 #[.string s] w (zeh w (pB (ls s))) := by
 have c1 := fun W => zen s W hs
 have hr0 : zgy (w.alloc (.cells hz 26)) w.heap.size hz := zat w _ _
 have hb0 : Below w.heap.size w (w.alloc (.cells hz 26)) := (Below.refl _ _).alloc jH _
 have hpw0 := zw7 hpw hb0
 unfold pB
 by_cases hl : (ls s).getLast? = some 93
 ·rw [if_pos hl]
  simp only [if_pos hl, jT hl] at c1
  have hX : (bs (ls s).dropLast).size <= 1000000000 := by rw [zb5]; simp; rw [zb4]; omega
  have c2 := fun W hW => hP (bs (ls s).dropLast) W hX hW
  rw [zb0] at c2
  have h8 := zem (l := (ls s).dropLast)
  obtain ⟨X, hXe⟩ : ∃ X, X = bs (ls s).dropLast := ⟨_, rfl⟩
  simp only [<- hXe] at c1 c2
  cases hp : znu (ls s).dropLast with
  | none =>
    rw [hp] at c2
    have c2' := c2 _ hpw0
    rw [show av (zkn none) = #[.int .u16 0, .int .u16 0, .int .u16 0, .int .u16 0, .int .u16 0, .int .u16 0, .int .u16 0, .int .u16 0] from rfl, show (none : Option (List Nat)).isSome = false from rfl] at c2'
    clear hp h8 hXe hX c2 hl hpw hpw0
    go_enter Tryz.func109, Tryz.ntmps109
    go_wp2_with fail
    refine (c1 _).mono ?_
    rintro e w0 ⟨rfl, rfl⟩
    go_wp2_with fail
    refine c2'.mono ?_
    rintro e w1 ⟨rfl, hb1⟩
    have hr1 : zgy w1 w.heap.size hz := Row.below hr0 hb1 hr0.lt
    replace hb1 := hb0.trans (hb1.mono hb0.size)
    clear hr0 hb0 c1 c2'
    go_upto_region 3 with fail
    obtain ⟨W2, hW2⟩ : ∃ x, x = w1.alloc (.cells #[.int .u16 0, .int .u16 0, .int .u16 0, .int .u16 0, .int .u16 0, .int .u16 0, .int .u16 0, .int .u16 0] 24) := ⟨_, rfl⟩
    have hb2 : Below w.heap.size w W2 := by rw [hW2]; exact hb1.alloc hb1.size _
    have hr2 : zgy W2 w.heap.size hz := by rw [hW2]; exact Row.grown0 hr1 (World.grownBy_alloc w1 _ _)
    rw [<- hW2]
    clear hW2 hb1 hr1
    go_wp2_with (refine zee rfl rfl _ _ rfl w.heap.size (by exact rfl) hz (by exact rfl) _ hr2 rfl rfl (zgv _ _ _ _) ?_; intro w3 hr3 hg3)
    exact zg1 2 3 rfl w.heap.size rfl hz hr3 rfl _ rfl rfl ⟨rfl, zau hb2 hg3 jH jH⟩
  | some g =>
    rw [hp] at c2 h8
    have c2' := c2 _ hpw0
    have hg8 : g.length = 8 := h8
    rw [show zkn (some g) = g from rfl, show (some g).isSome = true from rfl] at c2'
    have c3 := fun W => zg5 g hg8 W
    obtain ⟨x0, x1, x2, x3, x4, x5, x6, x7, rfl⟩ := zel g hg8
    have e1 : av [x0, x1, x2, x3, x4, x5, x6, x7] = #[.int .u16 (x0 : Int), .int .u16 (x1 : Int), .int .u16 (x2 : Int), .int .u16 (x3 : Int), .int .u16 (x4 : Int), .int .u16 (x5 : Int), .int .u16 (x6 : Int), .int .u16 (x7 : Int)] := rfl
    have e2 : (hv6 [x0, x1, x2, x3, x4, x5, x6, x7]).cells = hc 3 ⟨#[]⟩ 0 [x0, x1, x2, x3, x4, x5, x6, x7] := rfl
    rw [e1] at c2'
    simp only [e1] at c3
    unfold zeh
    rw [e2]
    obtain ⟨Y, hY⟩ : ∃ Y, Y = hc 3 ⟨#[]⟩ 0 [x0, x1, x2, x3, x4, x5, x6, x7] := ⟨_, rfl⟩
    have HY : Y.size = 11 /\ Y.all (·.oneCell') = true := by rw [hY]; exact ⟨rfl, zgv _ _ _ _⟩
    simp only [<- hY] at c3 ⊢
    clear hp h8 hXe hX c2 hl hpw hpw0 hg8 e1 e2 hY
    go_enter Tryz.func109, Tryz.ntmps109
    go_wp2_with fail
    refine (c1 _).mono ?_
    rintro e w0 ⟨rfl, rfl⟩
    go_wp2_with fail
    refine c2'.mono ?_
    rintro e w1 ⟨rfl, hb1⟩
    have hr1 : zgy w1 w.heap.size hz := Row.below hr0 hb1 hr0.lt
    replace hb1 := hb0.trans (hb1.mono hb0.size)
    clear hr0 hb0 c1 c2'
    go_wp2_with fail
    refine (c3 _).mono ?_
    rintro e w3 ⟨rfl, hb3⟩
    have hr3 : zgy w3 w.heap.size hz := Row.below (Row.grown0 hr1 (World.grownBy_alloc w1 _ _)) hb3 (by have := hr1.lt; simp; omega)
    replace hb3 := (hb1.alloc hb1.size _).trans (hb3.mono (by have := hb1.size; simp; omega))
    clear hr1 hb1
    go_wp2_with (refine zee rfl rfl _ _ rfl w.heap.size (by exact rfl) Y (by exact rfl) _ hr3 rfl HY.1 HY.2 ?_; intro w4 hr4 hg4)
    exact zg1 2 3 rfl w.heap.size rfl Y hr4 HY.1 _ rfl rfl ⟨rfl, zau hb3 hg4 jH jH⟩
 ·rw [if_neg hl]
  simp only [if_neg hl, jF hl] at c1
  have c2 := hP s _ hs hpw0
  obtain ⟨q, hq⟩ : ∃ q, q = (znu (ls s)).isSome := ⟨_, rfl⟩
  obtain ⟨x0, x1, x2, x3, x4, x5, x6, x7, hx⟩ := zel (zkn (znu (ls s))) zem
  rw [<- hq, hx, show av [x0, x1, x2, x3, x4, x5, x6, x7] = #[.int .u16 (x0 : Int), .int .u16 (x1 : Int), .int .u16 (x2 : Int), .int .u16 (x3 : Int), .int .u16 (x4 : Int), .int .u16 (x5 : Int), .int .u16 (x6 : Int), .int .u16 (x7 : Int)] from rfl] at c2
  clear hq hx hl hpw hpw0
  go_enter Tryz.func109, Tryz.ntmps109
  go_wp2_with fail
  refine (c1 _).mono ?_
  rintro e w0 ⟨rfl, rfl⟩
  go_wp2_with fail
  refine c2.mono ?_
  rintro e w1 ⟨rfl, hb1⟩
  have hr1 : zgy w1 w.heap.size hz := Row.below hr0 hb1 hr0.lt
  replace hb1 := hb0.trans (hb1.mono hb0.size)
  clear hr0 hb0 c1 c2
  go_upto_region 3 with fail
  obtain ⟨W2, hW2⟩ : ∃ x, x = w1.alloc (.cells #[.int .u16 (x0 : Int), .int .u16 (x1 : Int), .int .u16 (x2 : Int), .int .u16 (x3 : Int), .int .u16 (x4 : Int), .int .u16 (x5 : Int), .int .u16 (x6 : Int), .int .u16 (x7 : Int)] 24) := ⟨_, rfl⟩
  have hb2 : Below w.heap.size w W2 := by rw [hW2]; exact hb1.alloc hb1.size _
  have hr2 : zgy W2 w.heap.size hz := by rw [hW2]; exact Row.grown0 hr1 (World.grownBy_alloc w1 _ _)
  rw [<- hW2]
  clear hW2 hb1 hr1
  go_wp2_with (refine zee rfl rfl _ _ rfl w.heap.size (by exact rfl) hz (by exact rfl) _ hr2 rfl rfl (zgv _ _ _ _) ?_; intro w3 hr3 hg3)
  exact zg1 2 3 rfl w.heap.size rfl hz hr3 rfl _ rfl rfl ⟨rfl, zau hb2 hg3 jH jH⟩
end

section
set_option maxHeartbeats 16000000
theorem zu3 {P : Program} (w : World) (ts : Array TypeId) (t : TypeId) (a b r : Int) (hr : min a b = r) :
 (Builtin.min_ ts t #[.int .i64 a, .int .i64 b]).run P w = .ok (.int .i64 r) w := by
 have e1 : (if b < a then b else a) = min a b := by omega
 simp [Builtin.min_, Builtin.min2, List.foldlM, e1]
 omega
theorem zu4 {P : Program} (w : World) (ts : Array TypeId) (t : TypeId) (a b r : Int) (hr : max a b = r) :
 (Builtin.max_ ts t #[.int .i64 a, .int .i64 b]).run P w = .ok (.int .i64 r) w := by
 have e1 : (if a < b then b else a) = max a b := by omega
 simp [Builtin.max_, Builtin.max2, List.foldlM, e1]
 omega
end

end Go.Proofs.YtekaljeicfjkjaaGreatDoor
