/-
  Sets cut to so many ranges (Set), appends to a row of nodes that tell in which block it then lies. Conditions as written.
-/
import Derived.Test.YtceeimolfalmpaaVV
namespace Go.Proofs.Ytceeimolfalmpaa.S
open Go.RowKit ObSets

set_option maxHeartbeats 1000000 in
theorem set_any (A : Option Addr) (n c : Nat) (most : Nat) (l : List R) (w : World) (hn : l.length = n) (hnc : n ≤ c) (hc : c ≤ maxLen) (h : Rgs w w.heap.size A (l.take most)) (hA : A = none → l = []) (hm : most ≤ 100) :
    Calls Try.prog 14 #[.slice A n c, .int .i64 most] w (RetR (l.take most) w) := by
  have hc' : c ≤ 9223372036854775807 := by unfold maxLen at hc; omega
  have hb0 := (Below.refl w.heap.size w).alloc (Nat.le_refl _) (.cells #[] 69)
  have htl : (l.take most).length = min most n := by rw [List.length_take, hn]
  obtain ⟨v1, w1, hrun1, hown1, hg1⟩ := append_src (c := c) 33 (made_none w) (h.on hb0) (rgs_none h) (by simp; omega) (by simp)
  obtain ⟨o1, hb1⟩ := cat_rel hb0 (made_none w) hg1 hown1
  rw [List.nil_append] at o1
  have HR1 := Lib.hid hrun1
  have HO1 := Lib.hid o1
  rw [htl] at HR1
  clear hrun1 hown1 hg1 o1 h htl
  by_cases hgt : most < n
  · have hd : decide (most < n) = true := by simp; omega
    have hgt' : (most : Int) < (n : Int) := by omega
    rw [show min most n = most by omega] at HR1
    rcases A with _ | ⟨b, off, sp⟩
    · have := hA rfl; rw [this] at hn; simp at hn; omega
    · clear hA
      go_enter Try.func14, Try.ntmps14
      go_wp2_with (at_builtin; refine Lib.wpList_append_run _ rfl _ _ _ _ rfl _ _ rfl rfl _ _ HR1.out ?_)
      go_ret
      exact ⟨_, rfl, HO1.out, hb1⟩
  · have hd : decide (most < n) = false := by simp; omega
    have hgt' : (n : Int) ≤ (most : Int) := by omega
    rw [show min most n = n by omega] at HR1
    clear hA
    go_enter Try.func14, Try.ntmps14
    go_wp2_with (at_builtin; refine Lib.wpList_append_run _ rfl _ _ _ _ rfl _ _ rfl rfl _ _ HR1.out ?_)
    go_ret
    exact ⟨_, rfl, HO1.out, hb1⟩
end Go.Proofs.Ytceeimolfalmpaa.S
namespace Go.Proofs.Ytceeimolfalmpaa
open Go.RowKit ObSets ObTree

theorem run_append_at7 {P : Program} (w : World) (t ty e : TypeId) (i : TypeInfo) (z : Value) (bytes : Nat) (ht : P.underlying t = some (.slice e)) (hi : P.info? e = some i) (hz : i.zero = some z)
    (hsize : i.size = 7) (hby : i.bytes = bytes) (hzs : z.cells.size = 7)
    (v : Value) (n : Nat) (xs : List Value) (hown : w.ownsRow 0 e 7 v n xs)
    (a : Addr) (m c : Nat) (news : List Value) (hl : news.length = m * 7) (hnews : ∀ j u, news[j]? = some u → w.cell? (a.add j) = some u) (h1 : ∀ u ∈ news, u.oneCell' = true)
    (h63 : n + m ≤ maxLen) (hbytes : (n + m) * bytes ≤ 140737488355328) :
    ∃ v' w', (Builtin.append_ #[t, t] ty #[v, .slice (some a) m c]).run P w = .ok v' w' ∧ w'.ownsRow 0 e 7 v' (n + m) (xs ++ news) ∧ w.grownBy w' v.ownBlock ∧ (∀ g, v'.ownBlock = some g → v.ownBlock = some g ∨ w.heap.size ≤ g) := by
  obtain ⟨v', w', hr, h2, h3, h4⟩ := run_append_own (P := P) w 0 t ty e i z 7 bytes ht hi hz hsize hby hzs (by omega) v n xs hown a m c news (by omega) hnews h1 h63 hbytes (Nat.zero_le _)
  refine ⟨v', w', hr, h2, h3, fun g hg => ?_⟩
  have hsm : n + m ≤ 9223372036854775807 := by simp only [maxLen] at h63; omega
  subst hby
  rcases hown.2 with ⟨rfl, rfl⟩ | ⟨k, cap, cur, rfl, hbg, hgk, hnc, hcm, hcs, htake⟩
  · by_cases hm : m = 0
    · have := h4.2 ⟨rfl, hm⟩
      subst this; cases hg
    · have hr2 := run_append_nil (P := P) w t ty e i z ht hi hz a m c news (by rw [hsize]; omega) hnews (by omega) (by omega) (by have hb := hbytes; simp only [Nat.zero_add] at hb; omega)
      rw [hr] at hr2
      injection hr2 with e1 e2
      subst e1
      simp only [Value.ownBlock, Option.some.injEq] at hg
      exact .inr (by omega)
  · by_cases hroom : n + m ≤ cap
    · have hr2 := run_append_room (P := P) w t ty e i ht hi k n cap cur hgk a m c news (by rw [hsize]; omega) hnews h1 hroom (by rw [hsize, hcs]; omega)
      rw [hr] at hr2
      injection hr2 with e1 e2
      subst e1
      exact .inl hg
    · have hr2 := run_append_grow (P := P) w t ty e i z ht hi hz ⟨k, 0, none⟩ n cap xs (by rw [hsize, hown.1]) (hown.cells (g := k) rfl) a m c news (by rw [hsize]; omega) hnews (by omega) (by omega) (growslice_fits (by omega) hbytes)
      rw [hr] at hr2
      injection hr2 with e1 e2
      subst e1
      simp only [Value.ownBlock, Option.some.injEq] at hg
      exact .inr (by omega)
theorem wpList_append_at7 {P : Program} {w : World} {ops : Array Oper} {rest : List Oper} {o : Oper} {act : Act} {Q : Exit → Act → World → Prop} (hgd : o.guard = none) (s x : Operand) (t : TypeId)
    (ho : o.op = .call { callee := .builtin .append, args := #[s, x], argTypes := #[t, t] }) (e : TypeId) (i : TypeInfo) (z : Value) (bytes : Nat) (ht : P.underlying t = some (.slice e)) (hi : P.info? e = some i) (hz : i.zero = some z)
    (hsize : i.size = 7) (hby : i.bytes = bytes) (hzs : z.cells.size = 7)
    (v : Value) (n : Nat) (xs : List Value) (hs : act.eval s = v) (hown : w.ownsRow 0 e 7 v n xs)
    (a : Addr) (m c : Nat) (news : List Value) (hx : act.eval x = .slice (some a) m c) (hl : news.length = m * 7) (hnews : ∀ j u, news[j]? = some u → w.cell? (a.add j) = some u) (h1 : ∀ u ∈ news, u.oneCell' = true)
    (h63 : n + m ≤ maxLen) (hbytes : (n + m) * bytes ≤ 140737488355328)
    (h : ∀ v' w', w'.ownsRow 0 e 7 v' (n + m) (xs ++ news) → w.grownBy w' v.ownBlock → (∀ g, v'.ownBlock = some g → v.ownBlock = some g ∨ w.heap.size ≤ g) → wpList P ops Q rest (act.put o.dst v') w') : wpList P ops Q (o :: rest) act w := by
  obtain ⟨v', w', hr, h2, h3, h4⟩ := run_append_at7 (P := P) w t o.type e i z bytes ht hi hz hsize hby hzs v n xs hown a m c news hl hnews h1 h63 hbytes
  exact Lib.wpList_append_run w hgd s x t t ho v _ hs hx v' w' hr (h v' w' h2 h3 h4)
end Go.Proofs.Ytceeimolfalmpaa
