/-
  What StsOrder and StsUnknown say of the texts of directives. No function of the program.
-/
import Derived.Test.YtpopkeidpohdiaaDiGp
import Derived.Test.YtpopkeidpohdiaaStP
import Derived.Test.YtpopkeidpohdiaaDiQ
import Derived.Test.YtpopkeidpohdiaaDiAt
namespace Go.Proofs.Ytpopkeidpohdiaa
open Go.RowKit

theorem fmt_read {l : List Dv} {t : List UInt8} (h : fmtR l = (t, 0)) : dirL t = (l, 0) ∧ t.length ≤ 4096 := by
  cases hok : dirOk l with
  | false => rw [fmt_bad hok] at h; cases h
  | true =>
    by_cases hz : 4096 < (dirT l).length
    · rw [fmt_long hok hz] at h; cases h
    · rw [fmt_good hok hz] at h
      injection h with h1 _
      subst h1
      exact ⟨dirL_text hok (by omega), by omega⟩
theorem fmt_short (d : Dv) (h1 : d.name.length ≤ 500) (h2 : d.value.length ≤ 500) : (fmtR [d]).1.length ≤ 1600 := by
  have hv := valT_len d.value
  have ht : (dirT [d]).length ≤ 1600 := by
    show d.text.length ≤ 1600
    unfold Dv.text
    split <;> simp <;> omega
  cases hok : dirOk [d] with
  | false => rw [fmt_bad hok]; simp
  | true => rw [fmt_good hok (by omega)]; exact ht
theorem fmt_len (l : List Dv) : (fmtR l).1.length ≤ 4096 := by
  cases hok : dirOk l with
  | false => rw [fmt_bad hok]; simp
  | true =>
    by_cases hz : 4096 < (dirT l).length
    · rw [fmt_long hok hz]; simp
    · rw [fmt_good hok hz]; simp; omega
theorem unk_both {a t : List UInt8} {l : List Dv} {d : Dv} (ha : dirL a = (l, 0)) (h1 : fmtR [d] = (t, 0)) (hl : l.length < 32) (hz : a.length ≤ 2000) (ht : t.length ≤ 1600) (hA : d.name ≠ nmA) (hI : d.name ≠ nmI) (hn : ∀ e ∈ l, e.name ≠ d.name) :
    stsP (a ++ 59 :: t) = polL l ∧ stsP (t ++ 59 :: a) = polL l := by
  have hb := (fmt_read h1).1
  have j1 := dirL_join ha hb (by simp; omega) (by omega)
  have j2 := dirL_join hb ha (by simp; omega) (by omega)
  rw [stsP_list j1, stsP_list j2]
  exact ⟨polL_more2 hA hI hn, polL_more hA hI hn⟩
theorem cat1 (s : ByteArray) (t : List UInt8) : ls (s ++ ⟨#[59]⟩ ++ bs t) = ls s ++ 59 :: t := by
  rw [ls_append, ls_append, ls_bs, show ls ⟨#[59]⟩ = [59] from rfl, List.append_assoc]
  rfl
theorem cat2 (s : ByteArray) (t : List UInt8) : ls (bs t ++ ⟨#[59]⟩ ++ s) = t ++ 59 :: ls s := by
  rw [ls_append, ls_append, ls_bs, show ls ⟨#[59]⟩ = [59] from rfl, List.append_assoc]
  rfl
/-- Two formatted lists of the same directives. -/
theorem ord_same {l m : List Dv} {s t : List UInt8} (h1 : fmtR l = (s, 0)) (h2 : fmtR m = (t, 0)) (hp : m.Perm l) : stsP s = stsP t := by
  rw [stsP_list (fmt_read h1).1, stsP_list (fmt_read h2).1, polL_perm hp]

end Go.Proofs.Ytpopkeidpohdiaa
