/-
  What share answers: a text in new chunks, each with at least the least share and at most a chunk's size.
-/
import Derived.Test.YtdpjcbljeklhmaaDoorB7
namespace Go.Proofs.YtdpjcbljeklhmaaDoor
open Go.RowKit ObGap

theorem Chs.snoc {w : World} {F : Nat → Prop} {mx : Nat} {qs : List Q} (h : Chs w F mx qs) {c g : Nat} {s : Bs} {p : Nat} (hk : Chk w c g mx s p) (fc : F c) (fg : F g) (hn : ∀ q ∈ qs, q.c ≠ c ∧ q.g ≠ g) : Chs w F mx (qs ++ [⟨c, g, s⟩]) := by
  refine ⟨fun q hq => ?_, ?_, ?_⟩
  · rcases List.mem_append.1 hq with hq | hq
    · exact h.1 q hq
    · rw [List.mem_singleton.1 hq]; exact ⟨fc, fg, p, hk⟩
  · rw [List.map_append, List.nodup_append]
    refine ⟨h.2.1, by simp, fun a ha b hb => ?_⟩
    obtain ⟨q, hq, rfl⟩ := List.mem_map.1 ha
    simp at hb; subst hb
    exact (hn q hq).1
  · rw [List.map_append, List.nodup_append]
    refine ⟨h.2.2, by simp, fun a ha b hb => ?_⟩
    obtain ⟨q, hq, rfl⟩ := List.mem_map.1 ha
    simp at hb; subst hb
    exact (hn q hq).2
theorem New.mono {w a b : World} (h : a.heap.size ≤ b.heap.size) {k : Nat} (hk : New w a k) : New w b k := ⟨hk.1, Nat.lt_of_lt_of_le hk.2 h⟩
section
variable {w wr w1 w2 w3 : World} {mx : Nat} {qs : List Q} {v v' : Value} {z : Bs} {pz : Nat} {o : Obj}
theorem share_own (hO : wr.ownsRow w.heap.size 81 1 v qs.length (ptrs (qs.map Q.c))) (hb1 : Below wr.heap.size wr w1) (hx : Ex (wr.heap.size + 1) wr.heap.size w1 w2) : (w2.alloc o).ownsRow w.heap.size 81 1 v qs.length (ptrs (qs.map Q.c)) := by
  refine own_keep hO fun k hk => ?_
  have := (hO.lt k hk).2
  rw [Below.heap_alloc _ _ _ (by have := hb1.size; have := hx.size; omega), hx.block _ (by have := hb1.size; omega) (by omega) (by omega), hb1.block _ this]
theorem share_push (hB : Below w.heap.size w wr) (hC : Chs wr (New w wr) mx qs) (hO : wr.ownsRow w.heap.size 81 1 v qs.length (ptrs (qs.map Q.c)))
    (hb1 : Below wr.heap.size wr w1) (hx : Ex (wr.heap.size + 1) wr.heap.size w1 w2) (hk : Chk w2 (wr.heap.size + 1) wr.heap.size mx z pz)
    (hown' : w3.ownsRow w.heap.size 81 1 v' (qs.length + 1) (ptrs (qs.map Q.c) ++ [ptr (wr.heap.size + 1)])) (hg : (w2.alloc o).grownBy w3 v.ownBlock) :
    w3.ownsRow w.heap.size 81 1 v' (qs ++ [Q.mk (wr.heap.size + 1) wr.heap.size z]).length (ptrs ((qs ++ [Q.mk (wr.heap.size + 1) wr.heap.size z]).map Q.c)) ∧ Chs w3 (New w w3) mx (qs ++ [⟨wr.heap.size + 1, wr.heap.size, z⟩]) ∧ Below w.heap.size w w3 := by
  have s0 := hB.size
  have s1 := hb1.size
  have s2 := hx.size
  have s3 := hg.size
  have hlt := hk.lt
  have s4 : w2.heap.size ≤ (w2.alloc o).heap.size := by simp
  have hO2 := share_own (o := o) hO hb1 hx
  have hC2 : Chs (w2.alloc o) (New w w3) mx (qs ++ [⟨wr.heap.size + 1, wr.heap.size, z⟩]) := by
    refine Chs.snoc (p := pz) ?_ (hk.keep (Below.heap_alloc _ _ _ hlt.1) (Below.heap_alloc _ _ _ hlt.2)) ⟨by omega, by omega⟩ ⟨by omega, by omega⟩ fun q hq => ?_
    · refine (hC.keep fun k hk hf => ?_).mono fun k hk => hk.mono (by omega)
      rw [Below.heap_alloc _ _ _ (by omega), hx.block _ (by omega) (by omega) (by omega), hb1.block _ hk]
    · obtain ⟨h1, h2, _⟩ := hC.1 q hq
      have := h1.2; have := h2.2
      exact ⟨by omega, by omega⟩
  refine ⟨by simpa using hown', hC2.grown hg (t := 81) (fun k hk => own_ty hO2 hk) (by decide) (by decide), ?_⟩
  have hb2 : Below w.heap.size w (w2.alloc o) := (((hB.trans (hb1.mono s0)).trans (hx.below (by omega) (by omega) (by omega)))).alloc (by omega) o
  exact hb2.grown hg (by omega) (fun k hk => (hO.lt k hk).1)
end
/-- What share leaves. -/
def Shr (mx : Nat) (x : Bs) (w : World) (e : Ending) (w' : World) : Prop :=
  ∃ v qs, e = .returned v ∧ w'.ownsRow w.heap.size 81 1 v qs.length (ptrs (qs.map Q.c)) ∧ Chs w' (New w w') mx qs ∧ (txs qs).flatten = x ∧ (∀ t ∈ txs qs, x.length / ((x.length + mx - 1) / mx) ≤ t.length ∧ t.length ≤ mx) ∧ qs.length = (x.length + mx - 1) / mx ∧ Below w.heap.size w w'
theorem ones63 (c : Nat) : ∀ u ∈ [ptr c], u.oneCell' = true := by intro u hu; simp at hu; subst hu; rfl
theorem one_cell63 (w : World) (c : Nat) (t : TypeId) : ∀ j u, [ptr c][j]? = some u → (w.alloc (.cells #[ptr c] t)).cell? ((⟨w.heap.size, 0, none⟩ : Addr).add j) = some u := by
  intro j u hj
  rw [add_at, Nat.zero_add]
  have h : (w.alloc (.cells #[ptr c] t)).heap[w.heap.size]? = some (.cells [ptr c].toArray t (0, 0)) := heap_new _ _
  rw [row_cell h]; exact hj
theorem app_le {a r x : Bs} {n : Nat} (h : a ++ r = x) (h2 : x.length ≤ n) : r.length ≤ n := by
  subst h; rw [List.length_append] at h2; omega
theorem div_q {n k q : Nat} (h : n ≤ 2097152) (hq : q = n / k) : wrap64 ((n : Int) / (k : Int)) = (q : Int) ∧ IntKind.i64.wrap (Int.tdiv (n : Int) (k : Int)) = (q : Int) ∧ q ≤ n := by
  have h1 : (n : Int) / (k : Int) = ((n / k : Nat) : Int) := (Int.natCast_ediv _ _).symm
  have h2 : Int.tdiv (n : Int) (k : Int) = ((n / k : Nat) : Int) := (Int.ofNat_tdiv _ _).symm
  have h3 : n / k ≤ n := Nat.div_le_self _ _
  rw [h1, h2, ← hq]
  rw [← hq] at h3
  clear h1 h2 hq
  exact ⟨IntWalk.wrap64_in _ ⟨by omega, by omega⟩, IntWalk.i64_in _ (by omega), h3⟩
set_option maxHeartbeats 2000000 in
theorem share_any {w : World} {b mx : Nat} (hc : w.cell? ⟨b, 0, none⟩ = some (.int .i64 (mx : Int))) (hbl : b < w.heap.size) (h4 : 4 ≤ mx) (h5 : mx ≤ 4096) (x : Bs) (h1 : 1 ≤ x.length) (h2 : x.length ≤ 2097152) : Calls Tryd.prog 57 #[ptr b, str x] w (Shr mx x w) := by
  obtain ⟨y, hy, y1, y2, y3⟩ := info63x
  obtain ⟨k0, hk0⟩ : ∃ k0, k0 = (x.length + mx - 1) / mx := ⟨_, rfl⟩
  obtain ⟨lo, hlo⟩ : ∃ lo, lo = x.length / k0 := ⟨_, rfl⟩
  have hf := share_few h4 h1
  rw [← hk0] at hf
  have HK0 := Lib.hid hk0
  have HLO := Lib.hid hlo
  have hlo2 : k0 * lo ≤ x.length := by rw [hlo]; exact Nat.mul_div_le _ _
  have wq1 : IntKind.i64.wrap ((x.length : Int) + (mx : Int)) = (x.length : Int) + (mx : Int) := IntWalk.i64_in _ (by omega)
  have wq2 : IntKind.i64.wrap ((x.length : Int) + (mx : Int) - 1) = ((x.length + mx - 1 : Nat) : Int) := (IntWalk.i64_in _ (by omega)).trans (by omega)
  have e1 : ((x.length : Int) + (mx : Int) - 1) = ((x.length + mx - 1 : Nat) : Int) := by omega
  have wq3 : IntKind.i64.wrap (Int.tdiv ((x.length + mx - 1 : Nat) : Int) (mx : Int)) = (k0 : Int) := by
    rw [show Int.tdiv ((x.length + mx - 1 : Nat) : Int) (mx : Int) = (((x.length + mx - 1) / mx : Nat) : Int) from (Int.ofNat_tdiv _ _).symm, ← hk0]
    exact IntWalk.i64_in _ (by omega)
  have wq4 : wrap64 (((x.length + mx - 1 : Nat) : Int) / (mx : Int)) = (k0 : Int) := by
    rw [show ((x.length + mx - 1 : Nat) : Int) / (mx : Int) = (((x.length + mx - 1) / mx : Nat) : Int) from (Int.natCast_ediv _ _).symm, ← hk0]
    exact IntWalk.wrap64_in _ ⟨by omega, by omega⟩
  have hz : ((mx : Int) == 0) = false := by simp; omega
  have hz2 : ¬ (mx : Int) = 0 := by omega
  have hz3 : ¬ mx = 0 := by omega
  have HC := Lib.hid hc
  clear hk0 hlo
  go_enter Tryd.func57, Tryd.ntmps57
  go_wp2_with fail
  go_quiet (fail)
  go_wp2_with fail
  rw [wq4]
  go_loopw [1, 5, 6] (fun s1 v s6 wr => ∃ (r : Bs) (qs : List Q) (k : Nat), s1 = str r ∧ s6 = .int .i64 k ∧ wr.ownsRow w.heap.size 81 1 v qs.length (ptrs (qs.map Q.c)) ∧ Chs wr (New w wr) mx qs ∧ (txs qs).flatten ++ r = x ∧ (∀ t ∈ txs qs, lo ≤ t.length ∧ t.length ≤ mx) ∧ r.length ≤ k * mx ∧ k * lo ≤ r.length ∧ qs.length + k = k0 ∧ Below w.heap.size w wr) (fun _ _ s6 _ => (intOf s6).toNat)
  case atStart => exact ⟨x, [], k0, rfl, rfl, World.ownsRow_nil _ _ _ _, Chs.nil _ _ _, by simp, by simp, hf.2.2, hlo2, by simp, below_drews (Below.refl _ _) _⟩
  case round =>
    obtain ⟨r, qs, k, rfl, rfl, hO, hC, hx, hts, hr1, hr2, hkk, hb⟩ := hrel
    have hk02 : k0 ≤ 2097152 := Nat.le_trans hf.2.1 h2
    clear wq1 wq2 e1 wq3 wq4 hlo2 hf
    have HO := Lib.hid hO
    have HCS := Lib.hid hC
    have HX := Lib.hid hx
    have HTS := Lib.hid hts
    have HB := Lib.hid hb
    have HR := Lib.hid (And.intro hr1 hr2)
    have hrl : r.length ≤ 2097152 := app_le hx h2
    rcases Nat.eq_zero_or_pos k with h0 | h0
    · subst h0
      have d1 : decide ((0 : Nat) < 0) = false := rfl
      have hr : r = [] := List.eq_nil_of_length_eq_zero (by simpa using hr1)
      clear hO hC hx hts hr1 hr2 hb
      go_wp2_with fail
      go_ret
      refine ⟨_, qs, rfl, HO.out, HCS.out, ?_, ?_, ?_, HB.out⟩
      · rw [← HX.out, hr, List.append_nil]
      · have := HTS.out; rw [HLO.out, HK0.out] at this; exact this
      · rw [← HK0.out]; omega
    · have HS := Lib.hid (share_one h0 hr1 hr2)
      have d1 : decide (0 < k) = true := by simp [h0]
      obtain ⟨q, hqd⟩ : ∃ q, q = r.length / k := ⟨_, rfl⟩
      obtain ⟨wd1, wd2, hq2⟩ := div_q hrl hqd
      have hq : q ≤ mx := by rw [hqd]; exact (share_one h0 hr1 hr2).2.1
      have HQD := Lib.hid hqd.symm
      clear hr1 hr2 hqd
      have kz : ((k : Int) == 0) = false := by simp; omega
      have kz2 : ¬ (k : Int) = 0 := by omega
      have kz3 : ¬ k = 0 := by omega
      have c0 : wr.cell? ⟨b, 0, none⟩ = some (.int .i64 (mx : Int)) := (hb.cell hbl).trans HC.out
      clear hO hC hx hts hb
      go_wp2_with fail
      refine (new_chk mx _ h4 h5).mono ?_
      rintro e w1 ⟨rfl, hk1, hb1⟩
      have HK1 := Lib.hid hk1
      have HB1 := Lib.hid hb1
      have e2 : (⟨⟨r⟩⟩ : ByteArray).extract 0 q = ⟨⟨r.take q⟩⟩ := by rw [bs_ext]; simp
      have e3 : (⟨⟨r⟩⟩ : ByteArray).extract q r.length = ⟨⟨r.drop q⟩⟩ := by rw [bs_ext, List.take_of_length_le (Nat.le_refl _)]
      have i1 : (q : Int) ≤ (r.length : Int) := by omega
      have HIN := insert_chk hk1 0 (r.take q)
      have hins : insS mx [] 0 (r.take q) = r.take q := by
        unfold insS
        rw [if_neg (by simp [out]), if_neg (by simp; omega)]
        simp
      rw [hins] at HIN
      have HIN2 := Lib.hid HIN
      clear hk1 hb1 HIN hins
      go_wp2_with fail
      refine HIN2.out.mono ?_
      rintro e w2 ⟨rfl, hk2, hx2⟩
      have HK2 := Lib.hid hk2
      have HX2 := Lib.hid hx2
      clear hk2 hx2
      have HOW := Lib.hid (fun o => share_own (o := o) HO.out HB1.out HX2.out)
      go_wp2_with (at_builtin; refine wpList_append_own _ rfl _ _ 67 rfl w.heap.size 81 y (.pointer none) 1 8 Tryd.underlying67 hy y1 y2 y3 rfl (by omega) _ qs.length (ptrs (qs.map Q.c)) rfl (HOW.out _) ⟨w2.heap.size, 0, none⟩ 1 1 [ptr (wr.heap.size + 1)] rfl rfl (one_cell63 _ _ _) (ones63 _) ?c3 ?c4 ?c5 ?_)
      case c3 => unfold maxLen; omega
      case c4 => omega
      case c5 => have := HB.out.size; have := HB1.out.size; have := HX2.out.size; simp; omega
      intro v' w3 hown' hgrow _
      have R := share_push HB.out HCS.out HO.out HB1.out HX2.out HK2.out (by rw [ptrs, List.map_map]; exact hown') hgrow
      clear hown' hgrow
      have R1 := Lib.hid R
      clear R
      go_wp2_with fail
      go_roundw
      case rel =>
        obtain ⟨r1, r2, r3⟩ := R1.out
        obtain ⟨t1, t2, t3, t4⟩ := HS.out
        rw [HQD.out] at t1 t2 t3 t4
        refine ⟨r.drop q, qs ++ [⟨wr.heap.size + 1, wr.heap.size, r.take q⟩], k - 1, rfl, by go_num, r1, r2, ?_, ?_, ?_, ?_, ?_, r3⟩
        · rw [← HX.out]; simp
        · intro t ht
          simp only [txs, List.map_append, List.mem_append, List.map_cons, List.map_nil, List.mem_singleton] at ht
          rcases ht with ht | rfl
          · exact HTS.out t ht
          · simp; omega
        · simpa using t3
        · simpa using t4
        · simp; omega
      case measure => simp [intOf]; omega
end Go.Proofs.YtdpjcbljeklhmaaDoor
