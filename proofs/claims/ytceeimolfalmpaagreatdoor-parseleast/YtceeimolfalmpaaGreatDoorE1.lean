/-
  Two rows of words that read alike are alike (EqToks). Conditions: at most 1000000 words, sets of at most 1000000 ranges.
-/
import Derived.Test.YtceeimolfalmpaaGreatDoorL17
import Derived.Test.YtceeimolfalmpaaGreatDoorSB
namespace Go.Proofs.YtceeimolfalmpaaGreatDoor
open Go.RowKit ObUtf ObSets ObLex

/-- A slice that reads as words. -/
def Tr (w : World) (A : Option Addr) (l : List T) : Prop :=
  l ≠ [] → ∃ b off, A = some ⟨b, off, none⟩ ∧ b < w.heap.size ∧ ∀ j t, l[j]? = some t → ∃ As ks, w.cell? ⟨b, off + j * 5, none⟩ = some (.int .i64 t.kind) ∧ w.cell? ⟨b, off + j * 5 + 1, none⟩ = some (.int .i64 t.at_) ∧ w.cell? ⟨b, off + j * 5 + 2, none⟩ = some (.slice As t.set.length ks) ∧ w.cell? ⟨b, off + j * 5 + 3, none⟩ = some (.int .i64 t.mn) ∧ w.cell? ⟨b, off + j * 5 + 4, none⟩ = some (.int .i64 t.mx) ∧ S.Rgs w w.heap.size As t.set
theorem Tk.reads {w : World} {B : Nat} {A : Option Addr} {n k : Nat} {l : List T} (h : Tk w B (.slice A n k) l) : Tr w A l := by
  intro hne
  obtain ⟨L, rfl, h2, h3⟩ := h
  rcases h2.2 with ⟨_, hn⟩ | ⟨g, cap, cur, hv, hbg, hg, rest⟩
  · exact absurd (by rw [List.eq_nil_of_length_eq_zero hn]; rfl) hne
  · injection hv with hv1 hv2 hv3
    subst hv1
    refine ⟨g, 0, rfl, lt_of_heap hg, fun j t ht => ?_⟩
    rw [List.getElem?_map] at ht
    cases hp : L[j]? with
    | none => rw [hp] at ht; cases ht
    | some p =>
      rw [hp] at ht
      simp at ht
      subst ht
      obtain ⟨c0, c1, c2, c3, c4⟩ := cellsT_at L j p hp
      have hx := World.ownsRow.cells h2 (g := g) rfl
      have e : ∀ k, (⟨g, 0, none⟩ : Addr).add k = ⟨g, 0 + k, none⟩ := fun k => by unfold Addr.add; split <;> simp_all
      obtain ⟨As, ks, hs, _, _, hr, _⟩ := (h3 p (List.mem_of_getElem? hp)).shape
      have d0 := hx _ _ c0; have d1 := hx _ _ c1; have d2 := hx _ _ c2; have d3 := hx _ _ c3; have d4 := hx _ _ c4
      rw [e] at d0 d1 d2 d3 d4
      rw [hs] at d2
      exact ⟨As, ks, d0, d1, d2, d3, d4, hr⟩
theorem Tr.below {w w' : World} {A : Option Addr} {l : List T} (h : Tr w A l) (hb : Below w.heap.size w w') : Tr w' A l := fun hne => by
  obtain ⟨b, off, e, hlt, hc⟩ := h hne
  refine ⟨b, off, e, Nat.lt_of_lt_of_le hlt hb.size, fun j t ht => ?_⟩
  obtain ⟨As, ks, c0, c1, c2, c3, c4, hr⟩ := hc j t ht
  exact ⟨As, ks, (hb.cell (p := ⟨b, _, none⟩) hlt).trans c0, (hb.cell (p := ⟨b, _, none⟩) hlt).trans c1, (hb.cell (p := ⟨b, _, none⟩) hlt).trans c2, (hb.cell (p := ⟨b, _, none⟩) hlt).trans c3, (hb.cell (p := ⟨b, _, none⟩) hlt).trans c4, hr.on hb⟩
set_option maxHeartbeats 2000000 in
set_option maxRecDepth 100000 in
theorem eqtoks_same (A1 A2 : Option Addr) (k1 k2 : Nat) (l : List T) (w : World) (h1 : Tr w A1 l) (h2 : Tr w A2 l) (hl : l.length ≤ 1000000) (hset : ∀ t ∈ l, t.set.length ≤ 1000000) :
    Calls Tryz.prog 32 #[.slice A1 l.length k1, .slice A2 l.length k2] w fun e w' => e = .returned (.bool true) ∧ Below w.heap.size w w' := by
  have H1 := Lib.hid h1; have H2 := Lib.hid h2; have HS := Lib.hid hset
  clear h1 h2 hset
  obtain ⟨n, hn⟩ : ∃ n, n = l.length := ⟨_, rfl⟩
  rw [← hn] at hl ⊢
  have HN := Lib.hid hn
  clear hn
  go_enter Tryz.func32, Tryz.ntmps32
  go_wp2_with fail
  go_loopw [5] (fun t wr => ∃ j : Nat, t = .int .i64 (j : Int) ∧ j ≤ n ∧ Below w.heap.size w wr) (fun t _ => n - (intOf t).toNat)
  case atStart => exact ⟨0, rfl, Nat.zero_le _, Below.refl _ _⟩
  case round =>
    obtain ⟨j, rfl, hj, hb⟩ := hrel
    by_cases hjn : j < n
    · have d1 : decide (j < n) = true := decide_eq_true hjn
      have hjn' : (j : Int) < (n : Int) := by omega
      have hne : l ≠ [] := fun e => by have := HN.out; rw [e] at this; simp at this; omega
      obtain ⟨t, ht⟩ : ∃ t, l[j]? = some t := ⟨_, List.getElem?_eq_getElem (by rw [← HN.out]; exact hjn)⟩
      obtain ⟨b1, o1, rfl, hl1, hc1⟩ := (H1.out.below hb) hne
      obtain ⟨b2, o2, rfl, hl2, hc2⟩ := (H2.out.below hb) hne
      obtain ⟨S1, q1, x0, x1, x2, x3, x4, xr⟩ := hc1 j t ht
      obtain ⟨S2, q2, y0, y1, y2, y3, y4, yr⟩ := hc2 j t ht
      have hsl := HS.out t (List.mem_of_getElem? ht)
      have HEQ := Lib.hid (fun W (hbW : Below wr.heap.size wr W) => S.eqset_any S1 S2 q1 q2 t.set t.set W (xr.on hbW) (yr.on hbW) hsl hsl)
      rw [show decide (t.set = t.set) = true from decide_eq_true rfl] at HEQ
      obtain ⟨kd, at_, set, mn, mx⟩ := t
      dsimp only at x0 x1 x2 x3 x4 y0 y1 y2 y3 y4 HEQ
      clear hc1 hc2 xr yr ht hne hsl
      generalize set.length = ns at *
      have SF := Lib.hid (fun W (hbW : Below wr.heap.size wr W) => (show (W.cell? ⟨b1, o1 + j * 5, none⟩ = some (.int .i64 kd) ∧ W.cell? ⟨b1, o1 + j * 5 + 1, none⟩ = some (.int .i64 at_) ∧ W.cell? ⟨b1, o1 + j * 5 + 2, none⟩ = some (.slice S1 ns q1) ∧ W.cell? ⟨b1, o1 + j * 5 + 3, none⟩ = some (.int .i64 mn) ∧ W.cell? ⟨b1, o1 + j * 5 + 4, none⟩ = some (.int .i64 mx)) ∧ (W.cell? ⟨b2, o2 + j * 5, none⟩ = some (.int .i64 kd) ∧ W.cell? ⟨b2, o2 + j * 5 + 1, none⟩ = some (.int .i64 at_) ∧ W.cell? ⟨b2, o2 + j * 5 + 2, none⟩ = some (.slice S2 ns q2) ∧ W.cell? ⟨b2, o2 + j * 5 + 3, none⟩ = some (.int .i64 mn) ∧ W.cell? ⟨b2, o2 + j * 5 + 4, none⟩ = some (.int .i64 mx)) from ⟨⟨(hbW.cell (p := ⟨b1, _, none⟩) hl1).trans x0, (hbW.cell (p := ⟨b1, _, none⟩) hl1).trans x1, (hbW.cell (p := ⟨b1, _, none⟩) hl1).trans x2, (hbW.cell (p := ⟨b1, _, none⟩) hl1).trans x3, (hbW.cell (p := ⟨b1, _, none⟩) hl1).trans x4⟩, (hbW.cell (p := ⟨b2, _, none⟩) hl2).trans y0, (hbW.cell (p := ⟨b2, _, none⟩) hl2).trans y1, (hbW.cell (p := ⟨b2, _, none⟩) hl2).trans y2, (hbW.cell (p := ⟨b2, _, none⟩) hl2).trans y3, (hbW.cell (p := ⟨b2, _, none⟩) hl2).trans y4⟩))
      go_wp2_with fail
      go_region_held3 (fun W => (W.cell? ⟨b1, o1 + j * 5, none⟩ = some (.int .i64 kd) ∧ W.cell? ⟨b1, o1 + j * 5 + 1, none⟩ = some (.int .i64 at_) ∧ W.cell? ⟨b1, o1 + j * 5 + 2, none⟩ = some (.slice S1 ns q1) ∧ W.cell? ⟨b1, o1 + j * 5 + 3, none⟩ = some (.int .i64 mn) ∧ W.cell? ⟨b1, o1 + j * 5 + 4, none⟩ = some (.int .i64 mx)) ∧ (W.cell? ⟨b2, o2 + j * 5, none⟩ = some (.int .i64 kd) ∧ W.cell? ⟨b2, o2 + j * 5 + 1, none⟩ = some (.int .i64 at_) ∧ W.cell? ⟨b2, o2 + j * 5 + 2, none⟩ = some (.slice S2 ns q2) ∧ W.cell? ⟨b2, o2 + j * 5 + 3, none⟩ = some (.int .i64 mn) ∧ W.cell? ⟨b2, o2 + j * 5 + 4, none⟩ = some (.int .i64 mx)))
        (first | exact SF.out _ (Below.refl _ _).drew | exact SF.out _ (undrew hb1) | fail)
        (first | (go_at_call 59; refine (HEQ.out _ (Below.refl _ _).drew).mono ?_; rintro e w1 ⟨rfl, hb1⟩) | fail)
      all_goals (
        go_wp2_with fail
        go_roundw
        case rel => exact ⟨j + 1, congrArg (Value.int .i64) (by omega), by omega, hb.trans ((undrew hb1).mono hb.size)⟩
        case measure => simp [intOf]; omega)
    · have d1 : decide (j < n) = false := decide_eq_false hjn
      go_wp2_with fail
      go_ret
      exact ⟨rfl, hb⟩
end Go.Proofs.YtceeimolfalmpaaGreatDoor
