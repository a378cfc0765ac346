/-
  Plain: all words of the fixed texts, of a class of a range of two symbols, of numbers in braces, and of two texts put together. No program, no conditions but those written.
-/
import Derived.Test.YtekpliookdihlaaDoorJ6
import Derived.Test.YtekpliookdihlaaDoorR12
namespace Go.Proofs.YtekpliookdihlaaDoor
open ObUtf ObSets ObLex

theorem k1_toks : toks k1 0 = .ok [⟨1, 0, [(97, 97)], 0, 0⟩, ⟨7, 1, [], 2, 0⟩, ⟨1, 5, notL [(98, 98)], 0, 0⟩] := by
  rw [toks_ok (by decide) k1_a, toks_ok (by decide) k1_b, toks_ok (by decide) k1_c, toks_end (by decide)]; rfl
theorem k2_toks : toks k2 0 = .error (5, 1) := by
  rw [toks_ok (by decide) k2_a, toks_bad (by decide) k2_b]; rfl
theorem k3_toks : toks k3 0 = .error (7, 4) := by
  rw [toks_ok (by decide) k3_a, toks_bad (by decide) k3_b]; rfl
theorem k4_toks : toks k4 0 = .error (4, 0) := toks_bad (by decide) k4_a
theorem not98 : (notL [((98 : Int), (98 : Int))]).length = 2 := by decide +kernel

theorem toks_right (a b : ByteArray) : ∀ (n i : Nat), b.size - i ≤ n → toks (a ++ b) (a.size + i) = shT a.size (toks b i)
  | 0, i, hn => by
    rw [toks_end (by rw [size_cat]; omega), toks_end (by omega)]; rfl
  | n + 1, i, hn => by
    have hs := size_cat a b
    by_cases hi : i < b.size
    · cases hw : word b i with
      | error f => rw [toks_bad hi hw, toks_bad (f := shF a.size f) (by omega) (by rw [word_right, hw]; rfl)]; rfl
      | ok y =>
        obtain ⟨t, j⟩ := y
        have hij := (word_next hi hw).1
        rw [toks_ok hi hw, toks_ok (t := sht a.size t) (j := a.size + j) (by omega) (by rw [word_right, hw]; rfl), toks_right a b n j (by omega)]
        cases toks b j <;> rfl
    · rw [toks_end (by omega), toks_end (by omega)]; rfl
theorem toks_left {a b : ByteArray} (hf : Fresh b) (hq : ObLex.Shut a) : ∀ (n i : Nat) (l : List T), a.size - i ≤ n → i ≤ a.size → toks a i = .ok l → toks (a ++ b) i = pre l (toks (a ++ b) a.size)
  | 0, i, l, hn, hle, h => by
    obtain rfl : i = a.size := by omega
    rw [toks_end (Nat.le_refl _)] at h; injection h with h; subst h; rw [pre_nil]
  | n + 1, i, l, hn, hle, h => by
    have hs := size_cat a b
    by_cases hi : i < a.size
    · cases hw : word a i with
      | error f => rw [toks_bad hi hw] at h; cases h
      | ok y =>
        obtain ⟨t, j⟩ := y
        have hij := (word_next hi hw).1
        have hj := word_fit hi hw
        rw [toks_ok hi hw] at h
        cases hr : toks a j with
        | error f => rw [hr] at h; cases h
        | ok l2 =>
          rw [hr] at h
          have e : [t] ++ l2 = l := by injection h
          rw [toks_ok (by omega) (word_left hf hq hi hw), toks_left hf hq n j l2 (by omega) hj hr, pre_pre, ← e]
    · obtain rfl : i = a.size := by omega
      rw [toks_end (Nat.le_refl _)] at h; injection h with h; subst h; rw [pre_nil]
/-- The words of two texts: where the first one has no fault. -/
theorem toks_cat {a b : ByteArray} (hf : Fresh b) (hq : ObLex.Shut a) {l : List T} (h : toks a 0 = .ok l) : toks (a ++ b) 0 = pre l (shT a.size (toks b 0)) := by
  rw [toks_left hf hq _ 0 l (Nat.le_refl _) (Nat.zero_le _) h, ← toks_right a b _ 0 (Nat.le_refl _), Nat.add_zero]

def o120 : ByteArray := ⟨#[120]⟩
section
variable {lo hi : Int} (h1 : U.goodB lo = true) (h2 : U.goodB hi = true)
include h1 h2
theorem nrm_one (h : lo ≤ hi) : nrm [(lo, hi)] = [(lo, hi)] :=
  once (nrm_ok _).1 ⟨fun r hr => by rw [List.mem_singleton] at hr; subst hr; exact ⟨h1, h2, h⟩, List.pairwise_singleton _ _⟩ (fun x => by rw [(nrm_ok _).2])
theorem rg_toks (h : lo ≤ hi) : toks (o91 ++ rg lo hi) 0 = .ok [⟨1, 0, [(lo, hi)], 0, 0⟩] := by
  have s0 : 0 < (o91 ++ rg lo hi).size := by rw [size_cat]; exact Nat.lt_of_lt_of_le (show 0 < o91.size by decide) (Nat.le_add_right _ _)
  rw [toks_ok s0 (cls_rg h1 h2 h), toks_end (Nat.le_refl _), nrm_one h1 h2 h]; rfl
theorem not_toks (h : lo ≤ hi) : toks (o91 ++ (o94 ++ rg lo hi)) 0 = .ok [⟨1, 0, notL [(lo, hi)], 0, 0⟩] := by
  have s0 : 0 < (o91 ++ (o94 ++ rg lo hi)).size := by rw [size_cat]; exact Nat.lt_of_lt_of_le (show 0 < o91.size by decide) (Nat.le_add_right _ _)
  rw [toks_ok s0 (cls_not_rg h1 h2 h), toks_end (Nat.le_refl _)]; rfl
theorem bad_toks (h : hi < lo) : toks (o120 ++ (o91 ++ rg lo hi)) 0 = .error (4, 2) := by
  have s0 : 0 < (o91 ++ rg lo hi).size := by rw [size_cat]; exact Nat.lt_of_lt_of_le (show 0 < o91.size by decide) (Nat.le_add_right _ _)
  have hb := toks_bad s0 (cls_rg_bad h1 h2 h)
  have h120 : toks o120 0 = .ok [⟨1, 0, [(120, 120)], 0, 0⟩] := by
    rw [toks_ok (t := ⟨1, 0, [(120, 120)], 0, 0⟩) (j := 1) (by decide) (by rfl), toks_end (by decide)]; rfl
  rw [toks_cat (fun _ => by left; rw [bt_left (show 0 < o91.size by decide)]; decide) ⟨fun _ => by decide, fun h => absurd h (by decide)⟩ h120, hb]
  rfl
end
theorem not_has (lo hi x : Int) (hx : U.goodB x = true) : has (notL [(lo, hi)]) x = !has [(lo, hi)] x := by
  have hx' : sym x = true := hx
  rw [(notL_ok _).2, hx']; rfl
section
variable {x y : ByteArray} (hx : Dig x) (hy : Dig y) (nx : 0 < x.size) (ny : 0 < y.size)
include hx hy nx ny
theorem rep_toks : toks (o123 ++ (x ++ (o44 ++ (y ++ o125)))) 0 =
    if 255 < vl x then .error (7, 1) else if 255 < vl y ∨ vl y < vl x then .error (7, 2 + x.size) else .ok [⟨6, 0, [], (vl x : Int), (vl y : Int)⟩] := by
  have s0 : 0 < (o123 ++ (x ++ (o44 ++ (y ++ o125)))).size := by rw [size_cat]; exact Nat.lt_of_lt_of_le (show 0 < o123.size by decide) (Nat.le_add_right _ _)
  have hw := word_rep hx hy nx ny
  by_cases h1 : 255 < vl x
  · rw [if_pos h1] at hw ⊢; exact toks_bad s0 hw
  · rw [if_neg h1] at hw ⊢
    by_cases h2 : 255 < vl y ∨ vl y < vl x
    · rw [if_pos h2] at hw ⊢; exact toks_bad s0 hw
    · rw [if_neg h2] at hw ⊢
      rw [toks_ok s0 hw, toks_end (Nat.le_refl _)]; rfl
end
theorem bud_toks {y : ByteArray} (hy : Dig y) (ny : 0 < y.size) : toks (o122 ++ (o123 ++ (o126 ++ (y ++ o125)))) 0 =
    if 255 < vl y then .error (7, 3) else .ok [⟨1, 0, [(122, 122)], 0, 0⟩, ⟨7, 1, [], (vl y : Int), 0⟩] := by
  obtain ⟨w0, w1⟩ := words_bud hy ny
  have s0 : 1 < (o122 ++ (o123 ++ (o126 ++ (y ++ o125)))).size := by
    rw [size_cat, size_cat]
    have e1 : o122.size = 1 := rfl
    have e2 : o123.size = 1 := rfl
    omega
  rw [toks_ok (Nat.lt_trans Nat.zero_lt_one s0) w0]
  by_cases h1 : 255 < vl y
  · rw [if_pos h1] at w1 ⊢; rw [toks_bad s0 w1]; rfl
  · rw [if_neg h1] at w1 ⊢
    rw [toks_ok s0 w1, toks_end (Nat.le_refl _)]; rfl
/-- A digit ahead of digits. -/
theorem dig_more {x : ByteArray} {u n : Nat} (hx : Dig x) (h : n = u * 10 ^ x.size + vl x) : Dig (d1 (u % 10) ++ x) ∧ n = u / 10 * 10 ^ (d1 (u % 10) ++ x).size + vl (d1 (u % 10) ++ x) ∧ (d1 (u % 10) ++ x).size = x.size + 1 := by
  have hd : u % 10 < 10 := Nat.mod_lt _ (by decide)
  have hs : (d1 (u % 10) ++ x).size = x.size + 1 := by rw [size_cat]; show 1 + x.size = _; omega
  refine ⟨(d1_dig hd).cat hx, ?_, hs⟩
  rw [hs, vl_cat, d1_vl hd, h, Nat.pow_succ]
  have e : u = u / 10 * 10 + u % 10 := by omega
  generalize u / 10 = q at *
  generalize u % 10 = r at *
  subst e
  rw [Nat.add_mul, Nat.mul_assoc, Nat.mul_comm 10, Nat.add_assoc]
theorem vl_zs {x : ByteArray} (k : Nat) : vl (zs k ++ x) = vl x := by rw [vl_cat, zs_vl, Nat.zero_mul, Nat.zero_add]
end Go.Proofs.YtekpliookdihlaaDoor
