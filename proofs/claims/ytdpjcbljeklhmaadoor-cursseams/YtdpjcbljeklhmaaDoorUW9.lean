/-
  What Is and Before of the page's own answer at every text of at most 1000000 bytes and every place.
-/
import Derived.Test.YtdpjcbljeklhmaaDoorUW8
namespace Go.Proofs.YtdpjcbljeklhmaaDoor.U
open Go.RowKit ObUtf

theorem bd_in {s : ByteArray} {n : Nat} (h : IsB s n) : ∃ c, c ≤ cnt s ∧ bd s c = n := by
  obtain ⟨k, rfl⟩ := h
  rcases Nat.lt_or_ge k (cnt s + 1) with h | h
  · exact ⟨k, by omega, rfl⟩
  · have h1 := bd_mono s (j := cnt s) (k := k) (by omega)
    have h2 := bd_le s k
    have h3 := cnt_end s
    exact ⟨cnt s, Nat.le_refl _, by omega⟩
theorem isBI_at (s : ByteArray) (c : Nat) : isBI s (bd s c : Int) = true := isBI_true ⟨c, rfl⟩
theorem isBI_none {s : ByteArray} {i : Int} (h : ∀ c, c < cnt s + 1 → (bd s c : Int) ≠ i) : isBI s i = false := by
  cases e : isBI s i with
  | false => rfl
  | true =>
    unfold isBI at e
    simp at e
    obtain ⟨c, hc, hb⟩ := bd_in ((locB_iff s i.toNat).1 e.2)
    exact absurd (by omega) (h c (by omega))
/-- The owned slice, where it is not empty. -/
theorem own_shape {w : World} {base : Nat} {v : Value} {n : Nat} {zs : List Int} (h : w.ownsRow base 3 1 v n (zs.map (Value.int .i64))) (hn : 0 < n) :
    ∃ g cap, v = .slice (some ⟨g, 0, none⟩) n cap ∧ ∀ j z, j < n → zs[j]? = some z → w.cell? ⟨g, j, none⟩ = some (.int .i64 z) := by
  have h0 := h
  rcases h.2 with ⟨_, h1⟩ | ⟨g, cap, cur, hv, _⟩
  · omega
  · subst hv
    refine ⟨g, cap, rfl, fun j z hj hz => ?_⟩
    rw [h0.cellAt j (by omega)]
    simp [hz]
theorem bdsTo_get (s : ByteArray) {n j : Nat} (h : j < n) : (bdsTo s n)[j]? = some (bd s j : Int) := by
  unfold bdsTo; simp [h]

def NotTo (s : ByteArray) (i : Int) (a k : Nat) : Prop := ∀ c, a ≤ c → c < k → (bd s c : Int) ≠ i
theorem NotTo.succ {s : ByteArray} {i : Int} {a k : Nat} (h : NotTo s i a k) (hk : (bd s k : Int) ≠ i) : NotTo s i a (k + 1) := fun c h1 h2 => by
  rcases Nat.lt_or_ge c k with h3 | h3
  · exact h c h1 h3
  · obtain rfl : c = k := by omega
    exact hk
set_option maxHeartbeats 1000000 in
set_option maxRecDepth 100000 in
theorem ris_any (s : ByteArray) (i : Int) (w : World) (hs : s.size ≤ 1000000) :
    Calls Tryd.prog 13 #[.string s, .int .i64 i] w fun e w' => e = .returned (.bool (isBI s i)) ∧ Below w.heap.size w w' := by
  have hcn := cnt_le s
  go_enter Tryd.func13, Tryd.ntmps13
  go_wp2_with (go_at_call 34; refine (bounds_any s _ hs).mono ?_; rintro e w1 ⟨v, rfl, hown, hb1⟩)
  rw [bdsTo_length] at hown
  obtain ⟨g, cap, rfl, hcell⟩ := own_shape hown (by omega)
  have HC := Lib.hid (show ∀ j, j < cnt s + 1 → w1.cell? ⟨g, j, none⟩ = some (.int .i64 (bd s j)) from fun j hj => hcell j _ hj (bdsTo_get s hj))
  have hF := Lib.hid (@isBI_none s i)
  have hA := Lib.hid (isBI_at s)
  have hm : cnt s + 1 ≤ 1000001 := by omega
  generalize cnt s + 1 = m at *
  clear hown hcell hcn
  go_wp2_with fail
  go_loop [6] (fun t => ∃ k : Nat, k ≤ m ∧ t = .int .i64 k ∧ NotTo s i 0 k) (fun t => m - (intOf t).toNat)
  case atStart => exact ⟨0, Nat.zero_le _, rfl, fun c _ h => by omega⟩
  case round =>
    obtain ⟨k, hk, rfl, hno⟩ := hrel
    have HN := Lib.hid hno
    clear hno
    by_cases hlt : k < m
    · have hc := HC.out k hlt
      by_cases he : (bd s k : Int) = i
      · have HE := Lib.hid he
        have hq : ((bd s k : Int) == i) = true := by simp [he]
        have HX := Lib.hid (show isBI s i = true by have := hA.out k; rw [he] at this; exact this)
        clear he
        generalize bd s k = p at *
        go_wp2
        go_ret
        exact ⟨ret_bool HX.out.symm, hb1⟩
      · have HE := Lib.hid he
        have hq : ((bd s k : Int) == i) = false := by simpa using he
        clear he
        generalize hp : bd s k = p at *
        have HP := Lib.hid hp; clear hp
        go_wp2
        go_round
        case rel => exact ⟨k + 1, by omega, by go_num, HN.out.succ (by rw [HP.out]; exact HE.out)⟩
        case measure => simp [intOf]; omega
    · obtain rfl : k = m := by omega
      have HX := Lib.hid (hF.out fun c h => HN.out c (Nat.zero_le _) h)
      go_wp2
      go_ret
      exact ⟨ret_bool HX.out.symm, hb1⟩
theorem bef_at {s : ByteArray} {k : Nat} (hk : 1 ≤ k) (hkc : k ≤ cnt s) : befS s (bd s k : Int) = sy s (bd s (k - 1)) ∧ befW s (bd s k : Int) = (wd s (bd s (k - 1)) : Int) := by
  have hB : IsB s (bd s k) := ⟨k, rfl⟩
  have hl := (locB_iff s _).2 hB
  have hlt := cnt_lt s (c := k - 1) (by omega)
  have hp := wd_pos hlt
  have he : bd s (k - 1) + wd s (bd s (k - 1)) = bd s k := by
    conv => rhs; rw [show k = (k - 1) + 1 by omega]
    rfl
  have e := pw_spec (s := s) (n := bd s k) (j := bd s (k - 1)) ⟨k - 1, rfl⟩ (by omega) he
  unfold befS befW
  rw [if_pos ⟨by omega, by simpa using hl⟩, if_pos ⟨by omega, by simpa using hl⟩, Int.toNat_natCast, e]
  exact ⟨by congr 1; omega, by omega⟩
theorem bef_none {s : ByteArray} {i : Int} (h : NotTo s i 1 (cnt s + 1)) : befS s i = -1 ∧ befW s i = 0 := by
  have hn : ¬ (0 < i ∧ locB s i.toNat = true) := fun ⟨h1, h2⟩ => by
    obtain ⟨c, hc, hb⟩ := bd_in ((locB_iff s i.toNat).1 h2)
    rcases Nat.eq_zero_or_pos c with h3 | h3
    · subst h3
      have : bd s 0 = 0 := rfl
      omega
    · exact h c h3 (by omega) (by omega)
  unfold befS befW
  rw [if_neg hn, if_neg hn]
  exact ⟨rfl, rfl⟩
set_option maxHeartbeats 1000000 in
set_option maxRecDepth 100000 in
theorem rbefore_any (s : ByteArray) (i : Int) (w : World) (hs : s.size ≤ 1000000) :
    Calls Tryd.prog 19 #[.string s, .int .i64 i] w fun e w' => e = .returned (.tuple #[.int .i64 (befS s i), .int .i64 (befW s i)]) ∧ Below w.heap.size w w' := by
  have hcn := cnt_le s
  go_enter Tryd.func19, Tryd.ntmps19
  go_wp2_with (go_at_call 34; refine (bounds_any s _ hs).mono ?_; rintro e w1 ⟨v, rfl, hown, hb1⟩)
  rw [bdsTo_length] at hown
  obtain ⟨g, cap, rfl, hcell⟩ := own_shape hown (by omega)
  have HC := Lib.hid (show ∀ j, j < cnt s + 1 → w1.cell? ⟨g, j, none⟩ = some (.int .i64 (bd s j)) from fun j hj => hcell j _ hj (bdsTo_get s hj))
  have hF := Lib.hid (@bef_none s i)
  have hA := Lib.hid (show ∀ k, 1 ≤ k → k < cnt s + 1 → befS s (bd s k : Int) = sy s (bd s (k - 1)) ∧ befW s (bd s k : Int) = (wd s (bd s (k - 1)) : Int) from fun k h1 h2 => bef_at h1 (by omega))
  have hm : cnt s + 1 ≤ 1000001 := by omega
  have hm1 : 1 ≤ cnt s + 1 := by omega
  generalize cnt s + 1 = m at *
  clear hown hcell hcn
  go_wp2_with fail
  go_loop [7] (fun t => ∃ k : Nat, 1 ≤ k ∧ k ≤ m ∧ t = .int .i64 k ∧ NotTo s i 1 k) (fun t => m - (intOf t).toNat)
  case atStart => exact ⟨1, Nat.le_refl _, hm1, rfl, fun c h1 h => by omega⟩
  case round =>
    obtain ⟨k, hk1, hk, rfl, hno⟩ := hrel
    have HN := Lib.hid hno
    clear hno
    by_cases hlt : k < m
    · have hc := HC.out k hlt
      by_cases he : (bd s k : Int) = i
      · have hq : ((bd s k : Int) == i) = true := by simp [he]
        have hX := hA.out k hk1 hlt
        rw [he] at hX
        have hc2 := HC.out (k - 1) (by omega)
        have HAT := Lib.hid (rat_any s (bd s (k - 1)) w1 (by unfold maxLen; omega))
        have e2 : wdI s (bd s (k - 1) : Int) = wd s (bd s (k - 1)) := by unfold wdI; rw [if_neg (by omega)]; rfl
        have e1 : syI s (bd s (k - 1) : Int) = sy s (bd s (k - 1)) := by unfold syI; rw [if_neg (by omega)]; rfl
        rw [e1, e2] at HAT
        have HX := Lib.hid hX
        have t1 : ((k : Int) - 1).toNat = k - 1 := by omega
        clear he hX e1 e2 hF hA HC
        generalize bd s k = p at *
        generalize sy s (bd s (k - 1)) = y at *
        generalize wd s (bd s (k - 1)) = v at *
        generalize bd s (k - 1) = p2 at *
        go_wp2_with (go_at_call 17; refine HAT.out.mono ?_; rintro e w' ⟨rfl, hbl⟩)
        go_ret2
        exact ⟨ret2 HX.out.1.symm HX.out.2.symm, bel_trans hb1 hbl⟩
      · have HE := Lib.hid he
        have hq : ((bd s k : Int) == i) = false := by simpa using he
        clear he
        generalize hp : bd s k = p at *
        have HP := Lib.hid hp; clear hp
        go_wp2
        go_round
        case rel => exact ⟨k + 1, by omega, by omega, by go_num, HN.out.succ (by rw [HP.out]; exact HE.out)⟩
        case measure => simp [intOf]; omega
    · obtain rfl : k = m := by omega
      have HX := Lib.hid (hF.out HN.out)
      go_wp2
      go_ret2
      exact ⟨ret2 HX.out.1.symm HX.out.2.symm, hb1⟩
end Go.Proofs.YtdpjcbljeklhmaaDoor.U
