/-
  What window of curs answers of a buffer: its bytes from one place up to another one. Conditions: those of the buffer's invariant.
-/
import Derived.Test.YtdpjcbljeklhmaaDoorCPlain2
import Derived.Test.YtdpjcbljeklhmaaDoorB17
namespace Go.Proofs.YtdpjcbljeklhmaaDoor
open Go.RowKit ObGap ObUtf

theorem infoB : (Tryd.prog.info? 5).map (fun i => (i.zero, i.size, i.bytes)) = some (some (.int .u8 0), 1, 1) := by kernel_rfl
theorem win_succ {s : Bs} {f k : Nat} (hf : f ≤ k) (h : k < s.length) : win s f (k + 1) = win s f k ++ [s[k]] := by
  unfold win
  rw [List.take_succ_eq_append_getElem h, List.drop_append_of_le_length (by simp; omega)]
theorem win_top {s : Bs} {f t : Nat} (h : s.length ≤ t) : win s f t = win s f s.length := by
  unfold win
  rw [List.take_of_length_le h, List.take_of_length_le (Nat.le_refl _)]
theorem byt_get {s : Bs} {k : Nat} (h : k < s.length) : byt s (k : Int) = (s[k].toNat : Int) := by
  unfold byt
  rw [if_neg (by omega)]
  simp [List.getElem?_eq_getElem h]
theorem byteCells_snoc (l : Bs) (x : UInt8) : Lib.byteCells (l ++ [x]) = Lib.byteCells l ++ [.int .u8 x.toNat] := by simp [Lib.byteCells]
theorem push_byte {w wr w1 w2 : World} {v v' : Value} {n : Nat} {xs : List Value} {y : Int} {o : Obj} (hB : Below w.heap.size w wr) (hb : Below wr.heap.size wr w1) (hown : wr.ownsRow w.heap.size 5 1 v n xs)
    (hown' : w2.ownsRow w.heap.size 5 1 v' (n + 1) (xs ++ [.int .u8 y])) (hg : (w1.alloc o).grownBy w2 v.ownBlock) : w2.ownsRow w.heap.size 5 1 v' (n + 1) (xs ++ [.int .u8 y]) ∧ Below w.heap.size w w2 := by
  have h1 := bel_trans hB hb
  have h2 := h1.alloc (by have := h1.size; omega) o
  refine ⟨hown', h2.grown hg (by have := h1.size; simp; omega) (fun k hk => ((own_below hown hb).lt k hk).1)⟩
set_option maxRecDepth 100000 in
/-- An own row of bytes as a string. -/
theorem own_string {w : World} {base : Nat} {v : Value} {l : Bs} (h : w.ownsRow base 5 1 v l.length (Lib.byteCells l)) : (convert 72 9 v).run Tryd.prog w = .ok (str l) w := by
  rcases h.2 with ⟨rfl, h0⟩ | ⟨g, cap, cur, rfl, hb, hgg, h1, h2, h3, h4⟩
  · obtain rfl : l = [] := List.eq_nil_of_length_eq_zero h0
    exact run_convert_bytes_nil (P := Tryd.prog) w 72 5 Tryd.underlying72 Tryd.underlying5 0 0 9 Tryd.underlying9
  · exact run_convert_bytes_back (P := Tryd.prog) w 72 9 5 ⟨g, 0, none⟩ cap l Tryd.underlying72 Tryd.underlying5 Tryd.underlying9 (fun j hj => World.ownsRow.cells h (g := g) rfl j _ (by simp [Lib.byteCells, hj]))

set_option maxHeartbeats 1000000 in
set_option maxRecDepth 100000 in
theorem window_bu {w : World} {F : Nat → Prop} {b mx : Nat} {s : Bs} {p : Nat} (h : Bu w F b mx s p) (f : Int) (a t : Nat) (hf : max f 0 = (a : Int)) (hal : a ≤ s.length) :
    Calls Tryd.prog 38 #[ptr b, .int .i64 f, .int .i64 (t : Int)] w fun e w' => e = .returned (str (win s a t)) ∧ Below w.heap.size w w' := by
  obtain ⟨i0, hi, hz0, hz1, hz2⟩ := info_parts infoB
  have hlen := h.lens.1
  have HH := Lib.hid h
  clear h
  have hwa : win s a a = [] := by unfold win; exact List.drop_of_length_le (by simp; omega)
  go_enter Tryd.func38, Tryd.ntmps38
  go_wp2
  go_loopw [7, 8] (fun v u wr => ∃ k : Nat, u = .int .i64 (k : Int) ∧ a ≤ k ∧ k ≤ s.length ∧ (k = a ∨ k ≤ t) ∧ wr.ownsRow w.heap.size 5 1 v (k - a) (Lib.byteCells (win s a k)) ∧ Below w.heap.size w wr) (fun _ u _ => s.length - (intOf u).toNat)
  case atStart => exact ⟨a, rfl, Nat.le_refl _, hal, .inl rfl, by rw [hwa, Nat.sub_self]; exact World.ownsRow_nil _ _ _ _, Below.refl _ _⟩
  case round =>
    obtain ⟨k, rfl, hak, hks, hkt, hown, hb⟩ := hrel
    have HO := Lib.hid hown
    have HL := Lib.hid (blen_bu (HH.out.on hb))
    have HB := Lib.hid (bbyte_bu (HH.out.on hb) (k : Int))
    clear hown
    obtain ⟨m, hm⟩ : ∃ m, m = min t s.length := ⟨_, rfl⟩
    have hmn : min (t : Int) (s.length : Int) = (m : Int) := by omega
    by_cases hlt : k < m
    · have hks1 : k < s.length := by omega
      rw [byt_get hks1] at HB
      have HW := Lib.hid (win_succ hak hks1)
      have hx : s[k].toNat < 256 := UInt8.toNat_lt _
      have hwr : IntKind.u8.wrap (s[k].toNat : Int) = (s[k].toNat : Int) := IntWalk.u8_in _ (by omega)
      generalize s[k] = x at *
      clear hwa hf hm
      go_wp2_with (first | (go_at_call 30; refine HL.out.mono ?_; rintro e w1 ⟨rfl, rfl⟩) | (go_at_call 35; refine HB.out.mono ?_; rintro e w1 ⟨rfl, hbl⟩; have HO1 := Lib.hid (own_below HO.out hbl)) | (at_builtin; refine wpList_append_own _ rfl _ _ 72 rfl w.heap.size 5 i0 (.int .u8 0) 1 1 Tryd.underlying72 hi hz0 hz1 hz2 rfl (by decide) _ _ _ rfl (HO1.out.alloc _) ⟨w1.heap.size, 0, none⟩ 1 1 [.int .u8 x.toNat] rfl rfl ?c1 ?c2 ?c3 ?c4 ?c5 ?_))
      case c1 => exact U.one_cell _ _ _
      case c2 => intro u hu; simp at hu; subst hu; rfl
      case c3 => unfold maxLen; omega
      case c4 => omega
      case c5 => have := hb.size; have := hbl.size; simp; omega
      intro v' w2 hown' hgrow _
      have R := push_byte hb hbl HO.out hown' hgrow
      clear hown' hgrow
      have R1 := Lib.hid R.1; have R2 := R.2
      clear R
      go_wp2
      go_roundw
      case rel => exact ⟨k + 1, by go_num, by omega, by omega, by omega, by rw [HW.out, byteCells_snoc, show k + 1 - a = k - a + 1 by omega]; exact R1.out, R2⟩
      case measure => simp [intOf]; omega
    · have HK := Lib.hid (show win s a t = win s a k by
        rcases hkt with rfl | hkt
        · rw [hwa]
          have : (win s k t).length = 0 := by rw [win_len]; omega
          exact List.eq_nil_of_length_eq_zero this
        · by_cases h1 : s.length ≤ t
          · rw [win_top h1, show k = s.length by omega]
          · rw [show k = t by omega])
      have hl : (win s a k).length = k - a := by rw [win_len]; omega
      have HC := Lib.hid (own_string (l := win s a k) (by rw [hl]; exact HO.out))
      have hcv := HC.out
      clear hf hm hwa
      generalize win s a k = W at *
      go_wp2_with (go_at_call 30; refine HL.out.mono ?_; rintro e w1 ⟨rfl, rfl⟩)
      go_ret
      exact ⟨by rw [HK.out]; rfl, hb⟩
end Go.Proofs.YtdpjcbljeklhmaaDoor
