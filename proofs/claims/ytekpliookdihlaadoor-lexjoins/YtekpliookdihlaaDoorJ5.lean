/-
  Plain: numbers in braces, with zeros ahead: what they say, and the words of such texts. No program, no conditions but those written.
-/
import Derived.Test.YtekpliookdihlaaDoorJ4
namespace Go.Proofs.YtekpliookdihlaaDoor
open ObUtf ObSets ObLex

/-- A text of decimal digits alone, and what it says. -/
def Dig (x : ByteArray) : Prop := ∀ k, k < x.size → 48 ≤ bt x k ∧ bt x k ≤ 57
def vl (x : ByteArray) : Nat := val x 0 x.size
theorem Dig.cat {a b : ByteArray} (ha : Dig a) (hb : Dig b) : Dig (a ++ b) := fun k hk => by
  rw [size_cat] at hk
  by_cases h : k < a.size
  · rw [bt_left h]; exact ha k h
  · have := hb (k - a.size) (by omega)
    rw [← bt_right a b, show a.size + (k - a.size) = k by omega] at this
    exact this
theorem val_cat (a b : ByteArray) : ∀ n, val (a ++ b) 0 (a.size + n) = vl a * 10 ^ n + val b 0 n
  | 0 => by
    show val (a ++ b) 0 a.size = vl a * 10 ^ 0 + 0
    rw [val_left _ (by omega)]; simp [vl]
  | n + 1 => by
    show val (a ++ b) 0 (a.size + n) * 10 + (bt (a ++ b) (0 + (a.size + n)) - 48) = vl a * 10 ^ (n + 1) + (val b 0 n * 10 + (bt b (0 + n) - 48))
    rw [val_cat a b n, Nat.zero_add, Nat.zero_add, bt_right, Nat.pow_succ, Nat.add_mul, Nat.mul_assoc, Nat.add_assoc]
theorem vl_cat (a b : ByteArray) : vl (a ++ b) = vl a * 10 ^ b.size + vl b := by
  unfold vl
  rw [size_cat]
  exact val_cat a b b.size
theorem dg_cat {x r : ByteArray} (hx : Dig x) (hr : ¬ (48 ≤ bt r 0 ∧ bt r 0 ≤ 57)) : ∀ (n i : Nat), x.size - i ≤ n → i ≤ x.size → dg (x ++ r) i = x.size - i
  | 0, i, hn, h => by
    obtain rfl : i = x.size := by omega
    have e := dg_r x r 0
    rw [Nat.add_zero] at e
    rw [e, Nat.sub_self, dg]
    split
    · rfl
    · rfl
  | n + 1, i, hn, h => by
    have hs := size_cat x r
    by_cases hi : i < x.size
    · have := hx i hi
      rw [dg, dif_pos (by omega), bt_left hi, if_pos this, dg_cat hx hr n (i + 1) (by omega) (by omega)]
      omega
    · exact dg_cat hx hr n i (by omega) h
theorem dg_all {x r : ByteArray} (hx : Dig x) (hr : ¬ (48 ≤ bt r 0 ∧ bt r 0 ≤ 57)) : dg (x ++ r) 0 = x.size := dg_cat hx hr _ 0 (Nat.le_refl _) (Nat.zero_le _)
theorem num_all {x r : ByteArray} (hx : Dig x) (hr : ¬ (48 ≤ bt r 0 ∧ bt r 0 ≤ 57)) : num (x ++ r) 0 = vl x := by
  unfold num
  rw [dg_all hx hr, val_left _ (by omega)]; rfl
def o44 : ByteArray := ⟨#[44]⟩
def o123 : ByteArray := ⟨#[123]⟩
def o125 : ByteArray := ⟨#[125]⟩
def o126 : ByteArray := ⟨#[126]⟩
def o122 : ByteArray := ⟨#[122]⟩
def o48 : ByteArray := ⟨#[48]⟩
theorem no125 : ¬ (48 ≤ bt o125 0 ∧ bt o125 0 ≤ 57) := by decide
theorem no44 (r : ByteArray) : ¬ (48 ≤ bt (o44 ++ r) 0 ∧ bt (o44 ++ r) 0 ≤ 57) := by
  have : bt (o44 ++ r) 0 = 44 := bt_left (show 0 < o44.size by decide)
  omega
section
variable {x y : ByteArray} (hx : Dig x) (hy : Dig y) (nx : 0 < x.size) (ny : 0 < y.size)
include hx hy nx ny
/-- {x,y} -/
theorem word_rep : word (o123 ++ (x ++ (o44 ++ (y ++ o125)))) 0 =
    if 255 < vl x then .error (7, 1) else if 255 < vl y ∨ vl y < vl x then .error (7, 2 + x.size) else .ok (⟨6, 0, [], (vl x : Int), (vl y : Int)⟩, (o123 ++ (x ++ (o44 ++ (y ++ o125)))).size) := by
  obtain ⟨t, ht⟩ : ∃ t, t = o123 ++ (x ++ (o44 ++ (y ++ o125))) := ⟨_, rfl⟩
  have s1 : t.size = 1 + (x.size + (1 + (y.size + 1))) := by rw [ht, size_cat, size_cat, size_cat, size_cat]; rfl
  have b0 : bt t 0 = 123 := by rw [ht]; exact bt_left (show 0 < o123.size by decide)
  have b1 : bt t (0 + 1) = bt x 0 := by rw [ht]; exact (bt_right o123 _ 0).trans (bt_left nx)
  have hx0 := hx 0 nx
  have d1 : dg t (0 + 1) = x.size := by rw [ht]; exact (dg_r o123 _ 0).trans (dg_all hx (no44 _))
  have v1 : num t (0 + 1) = vl x := by rw [ht]; exact (num_right o123 _ 0).trans (num_all hx (no44 _))
  have b2 : bt t (0 + 1 + x.size) = 44 := by
    rw [ht, show 0 + 1 + x.size = o123.size + (x.size + 0) by show _ = 1 + _; omega]
    exact (bt_right o123 _ _).trans ((bt_right x _ 0).trans (bt_left (show 0 < o44.size by decide)))
  have e2 : 0 + 1 + x.size + 1 = o123.size + (x.size + (o44.size + 0)) := by show _ = 1 + (_ + (1 + 0)); omega
  have d2 : dg t (0 + 1 + x.size + 1) = y.size := by rw [ht, e2]; exact (dg_r o123 _ _).trans ((dg_r x _ _).trans ((dg_r o44 _ 0).trans (dg_all hy no125)))
  have v2 : num t (0 + 1 + x.size + 1) = vl y := by rw [ht, e2]; exact (num_right o123 _ _).trans ((num_right x _ _).trans ((num_right o44 _ 0).trans (num_all hy no125)))
  have b3 : bt t (0 + 1 + x.size + 1 + y.size) = 125 := by
    rw [ht, show 0 + 1 + x.size + 1 + y.size = o123.size + (x.size + (o44.size + (y.size + 0))) by show _ = 1 + (_ + (1 + _)); omega]
    exact (bt_right o123 _ _).trans ((bt_right x _ _).trans ((bt_right o44 _ _).trans ((bt_right y _ 0).trans rfl)))
  rw [← ht, s1]
  unfold word
  dsimp only
  rw [if_neg (by omega), if_neg (by omega), if_pos b0]
  unfold braces
  dsimp only
  rw [if_neg (by omega), d1, v1, if_neg (by omega), if_pos b2, d2, v2, if_neg (by omega)]
  by_cases h1 : 255 < vl x
  · rw [if_pos h1, if_pos h1]
  · rw [if_neg h1, if_neg h1, if_neg (by omega)]
    by_cases h2 : 255 < vl y ∨ vl y < vl x
    · rw [if_pos h2, if_pos h2]
      dsimp only
      rw [show 0 + 1 + x.size + 1 = 2 + x.size by omega]
    · rw [if_neg h2, if_neg h2]
      dsimp only
      rw [show 0 + 1 + x.size + 1 + y.size + 1 = 1 + (x.size + (1 + (y.size + 1))) by omega]
      rfl
end
/-- z{~y} -/
theorem words_bud {y : ByteArray} (hy : Dig y) (ny : 0 < y.size) :
    word (o122 ++ (o123 ++ (o126 ++ (y ++ o125)))) 0 = .ok (⟨1, 0, [(122, 122)], 0, 0⟩, 1) ∧
    word (o122 ++ (o123 ++ (o126 ++ (y ++ o125)))) 1 = if 255 < vl y then .error (7, 3) else .ok (⟨7, 1, [], (vl y : Int), 0⟩, (o122 ++ (o123 ++ (o126 ++ (y ++ o125)))).size) := by
  obtain ⟨t, ht⟩ : ∃ t, t = o122 ++ (o123 ++ (o126 ++ (y ++ o125))) := ⟨_, rfl⟩
  have s1 : t.size = 1 + (1 + (1 + (y.size + 1))) := by rw [ht, size_cat, size_cat, size_cat, size_cat]; rfl
  have b0 : bt t 0 = 122 := by rw [ht]; exact bt_left (show 0 < o122.size by decide)
  have b1 : bt t 1 = 123 := by rw [ht]; exact (bt_right o122 _ 0).trans (bt_left (show 0 < o123.size by decide))
  have b2 : bt t (1 + 1) = 126 := by rw [ht]; exact (bt_right o122 _ 1).trans ((bt_right o123 _ 0).trans (bt_left (show 0 < o126.size by decide)))
  have e3 : 1 + 2 = o122.size + (o123.size + (o126.size + 0)) := rfl
  have d1 : dg t (1 + 2) = y.size := by rw [ht, e3]; exact (dg_r o122 _ _).trans ((dg_r o123 _ _).trans ((dg_r o126 _ 0).trans (dg_all hy no125)))
  have v1 : num t (1 + 2) = vl y := by rw [ht, e3]; exact (num_right o122 _ _).trans ((num_right o123 _ _).trans ((num_right o126 _ 0).trans (num_all hy no125)))
  have b3 : bt t (1 + 2 + y.size) = 125 := by
    rw [ht, show 1 + 2 + y.size = o122.size + (o123.size + (o126.size + (y.size + 0))) by show _ = 1 + (1 + (1 + _)); omega]
    exact (bt_right o122 _ _).trans ((bt_right o123 _ _).trans ((bt_right o126 _ _).trans ((bt_right y _ 0).trans rfl)))
  rw [← ht]
  constructor
  · obtain ⟨w0, y0⟩ := low (s := t) (i := 0) (by omega) (by omega)
    unfold word
    dsimp only
    rw [y0, w0, b0]
    rfl
  · rw [s1]
    unfold word
    dsimp only
    rw [if_neg (by omega), if_neg (by omega), if_pos b1]
    unfold braces
    dsimp only
    rw [if_pos b2, d1, v1, if_neg (by omega)]
    by_cases h1 : 255 < vl y
    · rw [if_pos h1, if_pos h1]
    · rw [if_neg h1, if_neg h1]
      dsimp only
      rw [show 1 + 2 + y.size + 1 = 1 + (1 + (1 + (y.size + 1))) by omega]
      rfl
/-- So many zeros. -/
def zs : Nat → ByteArray
  | 0 => ⟨#[]⟩
  | n + 1 => zs n ++ o48
theorem zs_size : ∀ n, (zs n).size = n
  | 0 => rfl
  | n + 1 => by show (zs n ++ o48).size = n + 1; rw [size_cat, zs_size n]; rfl
theorem zs_dig : ∀ n, Dig (zs n)
  | 0 => fun k hk => absurd hk (by show ¬ k < 0; omega)
  | n + 1 => (zs_dig n).cat fun k hk => by
    obtain rfl : k = 0 := by have : k < 1 := hk; omega
    decide
theorem zs_vl : ∀ n, vl (zs n) = 0
  | 0 => rfl
  | n + 1 => by show vl (zs n ++ o48) = 0; rw [vl_cat, zs_vl n]; rfl
/-- A digit's text. -/
def d1 (n : Nat) : ByteArray := ⟨#[UInt8.ofNat (48 + n)]⟩
theorem d1_bt {n : Nat} (h : n < 10) : bt (d1 n) 0 = 48 + n := (U.bt_mk [UInt8.ofNat (48 + n)] 0).trans (U.u8 (48 + n) (by omega))
theorem d1_dig {n : Nat} (h : n < 10) : Dig (d1 n) := fun k hk => by
  obtain rfl : k = 0 := by have : k < 1 := hk; omega
  rw [d1_bt h]; omega
theorem d1_vl {n : Nat} (h : n < 10) : vl (d1 n) = n := by
  show 0 * 10 + (bt (d1 n) (0 + 0) - 48) = n
  rw [d1_bt h]; omega
end Go.Proofs.YtekpliookdihlaaDoor
