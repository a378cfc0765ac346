/-
  What put leaves: the text with another one put in at a place, in chunks as they should be.
-/
import Derived.Test.YtdpjcbljeklhmaaDoorB9
namespace ObGap
theorem snd_left {m : Nat} {A B : List Bs} (h : Snd m (A ++ B)) : Snd m A := ⟨fun t ht => h.1 t (by simp [ht]), adj_left h.2⟩
theorem snd_right {m : Nat} {A B : List Bs} (h : Snd m (A ++ B)) : Snd m B := ⟨fun t ht => h.1 t (by simp [ht]), adj_right h.2⟩
theorem snd_nil (m : Nat) : Snd m [] := ⟨by simp, trivial⟩
theorem snd_one {m : Nat} {t : Bs} (h1 : 1 ≤ t.length) (h2 : t.length ≤ m) : Snd m [t] := ⟨fun u hu => by rw [List.mem_singleton.1 hu]; exact ⟨h1, h2⟩, trivial⟩
/-- One chunk grown. -/
theorem snd_mid_grow {m : Nat} {A B : List Bs} {k k' : Bs} (h : Snd m (A ++ k :: B)) (h1 : k.length ≤ k'.length) (h2 : k'.length ≤ m) : Snd m (A ++ k' :: B) := by
  have hk := h.1 k (by simp)
  have hB : Snd m B := ⟨fun t ht => h.1 t (by simp [ht]), adj_tail (adj_right h.2)⟩
  refine snd_three (K := [k']) (snd_left h) (snd_one (by omega) h2) hB (.inl (by simp)) (fun a A' x X' e1 e2 => ?_) (fun x X' c B' e1 e2 => ?_)
  · simp only [List.cons.injEq] at e2
    rw [← e2.1]
    have := h.2
    rw [e1, List.append_assoc] at this
    have := adj_mid this
    omega
  · have e3 : X' = [] ∧ x = k' := by
      cases X' with
      | nil => simpa using e1.symm
      | cons y Y => simp at e1
    rw [e3.2]
    have := h.2
    rw [e2] at this
    have := adj_mid this
    omega
theorem adj_big {m lo : Nat} (hm : 1 ≤ m) (hlo : m ≤ 2 * lo) : ∀ {N : List Bs}, (∀ t ∈ N, lo ≤ t.length) → Adj m N
  | [], _ => trivial
  | [_], _ => trivial
  | a :: b :: r, h => ⟨by have h1 := h a (by simp); have h2 := h b (by simp); omega, adj_big hm hlo (N := b :: r) fun t ht => h t (by simp [ht])⟩
/-- Great chunks in the place of one. -/
theorem snd_mid_new {m lo : Nat} {A B N : List Bs} {k : Bs} (hm : 4 ≤ m) (h : Snd m (A ++ k :: B)) (hN : N ≠ []) (hb : ∀ t ∈ N, lo ≤ t.length ∧ t.length ≤ m) (hlo : m ≤ 2 * lo) : Snd m (A ++ (N ++ B)) := by
  have hB : Snd m B := ⟨fun t ht => h.1 t (by simp [ht]), adj_tail (adj_right h.2)⟩
  refine snd_three (snd_left h) ⟨fun t ht => by have := hb t ht; omega, adj_big (by omega) hlo fun t ht => (hb t ht).1⟩ hB (.inl hN) (fun a A' x X' e1 e2 => ?_) (fun x X' c B' e1 e2 => ?_)
  · have h1 := (h.1 a (by rw [e1]; simp)).1
    have h2 := (hb x (by rw [e2]; simp)).1
    omega
  · have h1 := (h.1 c (by rw [e2]; simp)).1
    have h2 := (hb x (by rw [e1]; simp)).1
    omega
/-- A text shared is in chunks as they should be. -/
theorem snd_share {m : Nat} {x : Bs} {N : List Bs} (hm : 4 ≤ m) (h1 : 1 ≤ x.length) (hf : N.flatten = x) (hb : ∀ t ∈ N, x.length / ((x.length + m - 1) / m) ≤ t.length ∧ t.length ≤ m) (hl : N.length = (x.length + m - 1) / m) : Snd m N := by
  have hfew := share_few hm h1
  have hpos : 1 ≤ x.length / ((x.length + m - 1) / m) := (Nat.le_div_iff_mul_le hfew.1).2 (by rw [Nat.one_mul]; exact hfew.2.1)
  refine ⟨fun t ht => ⟨Nat.le_trans hpos (hb t ht).1, (hb t ht).2⟩, ?_⟩
  rcases Nat.lt_or_ge m x.length with h | h
  · exact adj_big (by omega) (share_half hm h) fun t ht => (hb t ht).1
  · have : (x.length + m - 1) / m = 1 := by
      apply Nat.div_eq_of_lt_le <;> omega
    rw [this] at hl
    match N, hl with
    | [_], _ => trivial
theorem put_mid {A B N : List Bs} {t x s : Bs} {a k : Nat} (hs : (A ++ t :: B).flatten = s) (ha : a = A.flatten.length + k) (hk : k ≤ t.length) (hN : N.flatten = t.take k ++ (x ++ t.drop k)) : (A ++ (N ++ B)).flatten = s.take a ++ (x ++ s.drop a) := by
  have := ins_mid A.flatten t B.flatten x k hk
  have e : A.flatten ++ (t ++ B.flatten) = s := by rw [← hs]; simp
  rw [e, ← ha] at this
  rw [← this, List.flatten_append, List.flatten_append, hN]
theorem put_one {A B : List Bs} {t x s : Bs} {a k : Nat} (hs : (A ++ t :: B).flatten = s) (ha : a = A.flatten.length + k) (hk : k ≤ t.length) : (A ++ (t.take k ++ (x ++ t.drop k)) :: B).flatten = s.take a ++ (x ++ s.drop a) := by
  have := put_mid (N := [t.take k ++ (x ++ t.drop k)]) (x := x) hs ha hk (by simp)
  simpa using this
theorem put_len {s x : Bs} {a : Nat} (ha : a ≤ s.length) : (s.take a ++ (x ++ s.drop a)).length = s.length + x.length := by simp; omega
theorem snd_many {T : List Bs} (h : ∀ t ∈ T, 1 ≤ t.length) : T.length ≤ T.flatten.length := by
  induction T with
  | nil => simp
  | cons t T ih =>
    have h1 := h t (by simp)
    have h2 := ih fun u hu => h u (by simp [hu])
    simp only [List.length_cons, List.flatten_cons, List.length_append]; omega
theorem take_set {A B A' : List Bs} {i : Nat} (h : A.length = i) : (A ++ B).take i = (A ++ A').take i := by
  rw [List.take_left' h, List.take_left' h]
end ObGap
namespace Go.Proofs.YtdpjcbljeklhmaaDoor
open Go.RowKit ObGap

theorem Fn.trans {F : Nat → Prop} {w a b : World} (h1 : w.heap.size ≤ a.heap.size) (h2 : a.heap.size ≤ b.heap.size) {k : Nat} (h : Fn (Fn F w a) a b k) : Fn F w b k := by
  rcases h with (h | h) | h
  · exact .inl h
  · exact .inr (h.mono h2)
  · exact .inr ⟨Nat.le_trans h1 h.1, h.2⟩
theorem Fn.lt {F : Nat → Prop} {w a : World} (hF : ∀ k, F k → k < w.heap.size) (h1 : w.heap.size ≤ a.heap.size) {k : Nat} (h : Fn F w a k) : k < a.heap.size := by
  rcases h with h | h
  · exact Nat.lt_of_lt_of_le (hF k h) h1
  · exact h.2
/-- What an edit of a buffer leaves. -/
def Edt (F : Nat → Prop) (b mx : Nat) (s : Bs) (p : Nat) (w : World) (v : Value) (e : Ending) (w' : World) : Prop :=
  e = .returned v ∧ Bu w' (Fn F w w') b mx s p ∧ Gs F (Fn F w w') w w'
/-- Counted anew, the buffer is whole. -/
theorem Cnt.edt {F : Nat → Prop} {b mx : Nat} {V : Value} {qs : List Q} {p : Nat} {w a : World} {e : Ending} {w' : World} {s : Bs} (h : Cnt (Fn F w a) b mx V qs p a e w') (hg : Gs F (Fn F w a) w a) (hF : ∀ k, F k → k < w.heap.size) (hs : (txs qs).flatten = s) (hsnd : Snd mx (txs qs)) (hl : s.length ≤ 1048576) (hp : p ≤ s.length) : Edt F b mx s p w (.tuple #[]) e w' := by
  obtain ⟨U', rfl, hX, hC, hG⟩ := h
  have hm : ∀ k, Fn (Fn F w a) a w' k → Fn F w w' k := fun k hk => hk.trans hg.size hG.size
  refine ⟨rfl, ⟨V, qs, U', hX.mono hm, hC.mono hm, fun k hk => hk.lt hF (Nat.le_trans hg.size hG.size), hs, hsnd, hl, hp⟩, (hg.trans hG).to fun k hk => ?_⟩
  rcases hk with h | h
  · exact .inl (.inl (.inl h))
  · exact .inr h.1
section
variable {w w1 : World} {F : Nat → Prop} {b mx : Nat} {V U : Value} {qs : List Q} {p : Nat}
/-- New chunks, all of them. -/
theorem put_first {V' : Value} {N : List Q} {E : List Nat} (hX : Bx w F b mx V (qs.map Q.c) U E p) (hB : Below w.heap.size w w1) (hO : w1.ownsRow w.heap.size 81 1 V' N.length (ptrs (N.map Q.c))) (hN : Chs w1 (New w w1) mx N) (hl : N.length ≤ 2097152) :
    Bx (w1.setCell ⟨b, 1, none⟩ V') (Fn F w (w1.setCell ⟨b, 1, none⟩ V')) b mx V' (N.map Q.c) U E p ∧ Chs (w1.setCell ⟨b, 1, none⟩ V') (Fn F w (w1.setCell ⟨b, 1, none⟩ V')) mx N ∧ Gs F (Fn F w (w1.setCell ⟨b, 1, none⟩ V')) w (w1.setCell ⟨b, 1, none⟩ V') := by
  have sz : (w1.setCell ⟨b, 1, none⟩ V').heap.size = w1.heap.size := by simp [World.setCell]
  have hX1 := hX.on hB
  have hO' : w1.ownsRow 0 81 1 V' (N.map Q.c).length (ptrs (N.map Q.c)) := by
    rw [List.length_map]
    refine ⟨hO.1, ?_⟩
    rcases hO.2 with h | ⟨g, cap, cur, e, _, r⟩
    · exact .inl h
    · exact .inr ⟨g, cap, cur, e, Nat.zero_le _, r⟩
  refine ⟨Bx.put1 hX1.blk hX1.en (.inl hX.fb) (fun g hg => .inl (hX.fu g hg)) hX.h4 hX.h5 hX.el hO' (fun g hg => .inr ⟨(hO.lt g hg).1, by rw [sz]; exact (hO.lt g hg).2⟩) (by simpa using hl), ?_, ?_⟩
  · exact (hN.setb hX1.blk 1 V').mono fun k hk => .inr ⟨hk.1, by rw [sz]; exact hk.2⟩
  · have g1 : Gs F F w w1 := Gs.of hB
    refine (g1.trans (Gs.set w1 hX.fb 1 V')).to fun k hk => ?_
    rcases hk with h | h
    · exact .inl h
    · exact .inr h.1
end
theorem part_q {qs : List Q} {i : Nat} (h : i < qs.length) : ∃ A q B, qs = A ++ q :: B ∧ A.length = i :=
  ⟨qs.take i, qs[i], qs.drop (i + 1), by rw [← List.drop_eq_getElem_cons h, List.take_append_drop], by simp; omega⟩
theorem own_any {w : World} {B n : Nat} {v : Value} {e : TypeId} {xs : List Value} (h : w.ownsRow B e 1 v n xs) : ∃ A m c, v = .slice A m c := by
  obtain ⟨A, c, rfl, _⟩ := own_see h
  exact ⟨_, _, _, rfl⟩
/-- Replace, over own rows. -/
theorem rep_own {w : World} {cs vs : List Nat} {V : Value} {Av : Option Addr} {capv B i j m : Nat} (hvm : vs.length = m) (hrow : w.ownsRow 0 81 1 V cs.length (ptrs cs)) (hv : w.ownsRow B 81 1 (.slice Av m capv) m (ptrs vs)) (hB : ∀ r, V.ownBlock = some r → r < B) (hnil : vs = [] → Av = none ∧ capv = 0) (ij : i < j) (jn : j ≤ cs.length) (hn : cs.length ≤ 2097152) (hm : vs.length ≤ 2097152) :
    Calls Tryd.prog 60 #[V, .int .i64 (i : Int), .int .i64 (j : Int), .slice Av m capv] w fun e w' => ∃ V', e = .returned V' ∧ w'.ownsRow 0 81 1 V' (cs.take i ++ (vs ++ cs.drop j)).length (ptrs (cs.take i ++ (vs ++ cs.drop j))) ∧ w.grownBy w' V.ownBlock ∧ (∀ k, V'.ownBlock = some k → V.ownBlock = some k ∨ w.heap.size ≤ k) := by
  subst hvm
  rcases hrow.2 with ⟨rfl, h0⟩ | ⟨r, cap, cur, rfl, _, hgg, h1, h2, h3, h4⟩
  · omega
  have hZ : cur.toList = ptrs cs ++ cur.toList.drop cs.length := by
    conv => lhs; rw [← List.take_append_drop cs.length cur.toList]
    rw [← h4]; simp
  have hrp : Rp w r cs.length cap (ptrs cs) (cur.toList.drop cs.length) Av vs.length capv (ptrs vs) i j := by
    refine ⟨?_, by simp, ?_, h2, hn, hm, by simp, fun h => hnil (List.eq_nil_of_length_eq_zero h), fun hpos => ?_, ij, jn, ?_, ?_⟩
    · rw [← hZ]; exact hgg
    · simp; omega
    · rcases hv.2 with ⟨e, h⟩ | ⟨k, c', cur', e, hk, hkk, h1', _, h3', _⟩
      · omega
      · injection e with e1 _ e2
        subst e1; subst e2
        refine ⟨k, rfl, by have := hB r rfl; omega, ⟨cur', hkk, by omega⟩, fun q u hq => ?_⟩
        have := hv.cells (g := k) rfl q u hq
        rwa [add_at, Nat.zero_add] at this
    · intro u hu; obtain ⟨c, _, rfl⟩ := List.mem_map.1 hu; rfl
    · intro u hu; obtain ⟨c, _, rfl⟩ := List.mem_map.1 hu; rfl
  refine (rep hrp).mono ?_
  rintro e w' ⟨V', rfl, ho, hg, hn⟩
  refine ⟨V', rfl, ?_, hg, fun k hk => (hn k hk).imp (fun h => by rw [h]; rfl) id⟩
  have e1 : (ptrs cs).take i ++ (ptrs vs ++ (ptrs cs).drop j) = ptrs (cs.take i ++ (vs ++ cs.drop j)) := by simp [ptrs]
  rw [e1] at ho
  simpa using ho
section
variable {w w3 w4 : World} {F : Nat → Prop} {b mx : Nat} {V U V' : Value} {p : Nat}
theorem ownb0 {w : World} {B n : Nat} {v : Value} {e : TypeId} {xs : List Value} (h : w.ownsRow B e 1 v n xs) : w.ownsRow 0 e 1 v n xs := by
  refine ⟨h.1, ?_⟩
  rcases h.2 with h | ⟨g, cap, cur, e, _, r⟩
  · exact .inl h
  · exact .inr ⟨g, cap, cur, e, Nat.zero_le _, r⟩
/-- The row of chunks replaced in part: the buffer behind it. -/
theorem put_repl {E : List Nat} {A N B K : List Q} (hX : Bx w3 (Fn F w w3) b mx V (K.map Q.c) U E p) (hC : Chs w3 (Fn F w w3) mx (A ++ (N ++ B))) (hG : Gs F (Fn F w w3) w w3)
    (ho : w4.ownsRow 0 81 1 V' ((A ++ (N ++ B)).map Q.c).length (ptrs ((A ++ (N ++ B)).map Q.c))) (hg : w3.grownBy w4 V.ownBlock) (hnb : ∀ k, V'.ownBlock = some k → V.ownBlock = some k ∨ w3.heap.size ≤ k) (hl : (A ++ (N ++ B)).length ≤ 2097152) :
    Bx (w4.setCell ⟨b, 1, none⟩ V') (Fn F w (w4.setCell ⟨b, 1, none⟩ V')) b mx V' ((A ++ (N ++ B)).map Q.c) U E p ∧ Chs (w4.setCell ⟨b, 1, none⟩ V') (Fn F w (w4.setCell ⟨b, 1, none⟩ V')) mx (A ++ (N ++ B)) ∧ Gs F (Fn F w (w4.setCell ⟨b, 1, none⟩ V')) w (w4.setCell ⟨b, 1, none⟩ V') := by
  have sz : (w4.setCell ⟨b, 1, none⟩ V').heap.size = w4.heap.size := by simp [World.setCell]
  have hm : ∀ k, Fn F w w3 k → Fn F w (w4.setCell ⟨b, 1, none⟩ V') k := fun k hk => hk.mono (by rw [sz]; exact hg.size)
  have hb4 : w4.heap[b]? = some (.cells #[.int .i64 (mx : Int), V, U, .int .i64 (p : Int)] 69 (0, 0)) := (hg.block _ hX.lt (fun e => hX.neV e.symm rfl)).trans hX.blk
  refine ⟨Bx.put1 hb4 (own_keep hX.en fun g hg' => hg.block _ (hX.en.lt g hg').2 (fun e => hX.neVU e.symm hg' rfl)) (hm _ hX.fb) (fun g hg' => hm _ (hX.fu g hg')) hX.h4 hX.h5 hX.el ho (fun g hg' => ?_) (by rw [List.length_map]; exact hl), ?_, ?_⟩
  · rcases hnb g hg' with h | h
    · exact hm _ (hX.fv g h)
    · exact .inr ⟨Nat.le_trans hG.size h, by rw [sz]; exact (ho.lt g hg').2⟩
  · exact ((hC.grown hg (t := 81) (fun k hk => own_ty hX.row hk) (by decide) (by decide)).setb hb4 1 V').mono hm
  · have g2 : Gs (Fn F w w3) (Fn F w w3) w3 w4 := Gs.grown hg fun k hk => hX.fv k hk
    have g3 : Gs (Fn F w w3) (Fn F w w3) w4 (w4.setCell ⟨b, 1, none⟩ V') := Gs.set w4 hX.fb 1 V'
    refine ((hG.trans g2).trans g3).to fun k hk => ?_
    rcases hk with h | h
    · exact .inl (.inl h)
    · exact .inr h.1
end
theorem put_end {w w4 w5 w6 : World} {F : Nat → Prop} {b mx : Nat} {V U V6 : Value} {p i c g : Nat} {t : Bs} {E : List Nat} {qs A N B : List Q} (hX4 : Bx w4 F b mx V (qs.map Q.c) U E p) (hC4 : Chs w4 F mx (A ++ ⟨c, g, t⟩ :: B)) (hG4 : Gs F F w w4) (hF : ∀ k, F k → k < w.heap.size) (hqs : qs = A ++ ⟨c, g, t⟩ :: B) (hAl : A.length = i) (hB5 : Below w4.heap.size w4 w5) (hN : Chs w5 (New w4.drew w5) mx N)
    (hO6 : w6.ownsRow 0 81 1 V6 ((qs.map Q.c).take i ++ (N.map Q.c ++ (qs.map Q.c).drop (i + 1))).length (ptrs ((qs.map Q.c).take i ++ (N.map Q.c ++ (qs.map Q.c).drop (i + 1))))) (hg6 : w5.grownBy w6 V.ownBlock) (hn6 : ∀ k, V6.ownBlock = some k → V.ownBlock = some k ∨ w5.heap.size ≤ k) (hl : (A ++ (N ++ B)).length ≤ 2097152) :
    Bx (w6.setCell ⟨b, 1, none⟩ V6) (Fn F w (w6.setCell ⟨b, 1, none⟩ V6)) b mx V6 ((A ++ (N ++ B)).map Q.c) U E p ∧ Chs (w6.setCell ⟨b, 1, none⟩ V6) (Fn F w (w6.setCell ⟨b, 1, none⟩ V6)) mx (A ++ (N ++ B)) ∧ Gs F (Fn F w (w6.setCell ⟨b, 1, none⟩ V6)) w (w6.setCell ⟨b, 1, none⟩ V6) := by
  have hL : (qs.map Q.c).take i ++ (N.map Q.c ++ (qs.map Q.c).drop (i + 1)) = (A ++ (N ++ B)).map Q.c := by
    subst hqs hAl
    have e1 : ((A ++ ⟨c, g, t⟩ :: B).map Q.c).take A.length = A.map Q.c := by rw [List.map_append]; exact List.take_left' (by simp)
    have e2 : ((A ++ ⟨c, g, t⟩ :: B).map Q.c).drop (A.length + 1) = B.map Q.c := by
      rw [show (A ++ ⟨c, g, t⟩ :: B).map Q.c = (A.map Q.c ++ [c]) ++ B.map Q.c by simp]
      exact List.drop_left' (by simp)
    rw [e1, e2]; simp
  rw [hL] at hO6
  have s4 := hG4.size
  have s5 := hB5.size
  have hC5 : Chs w5 (Fn F w w5) mx (A ++ ⟨c, g, t⟩ :: B) := (hC4.on hB5).mono fun k hk => .inl hk
  refine put_repl (K := qs) ((hX4.on hB5).mono fun k hk => .inl hk) (hC5.mid (hN.mono fun k hk => .inr ⟨Nat.le_trans s4 hk.1, hk.2⟩) fun x hx y hy => ?_) ((hG4.below_right hB5).to fun k hk => hk.imp id And.left) hO6 hg6 hn6 hl
  obtain ⟨x1, x2, _⟩ := hN.1 x hx
  obtain ⟨y1, y2, _⟩ := hC4.1 y (by
    rcases List.mem_append.1 hy with h | h
    · simp [h]
    · simp [h])
  have a1 : w4.heap.size ≤ x.c := x1.1
  have a2 : w4.heap.size ≤ x.g := x2.1
  have b1 := hF _ y1
  have b2 := hF _ y2
  exact ⟨by omega, by omega⟩
set_option maxHeartbeats 2000000 in
theorem put_bu {w : World} {F : Nat → Prop} {b mx : Nat} {s : Bs} {p : Nat} (h : Bu w F b mx s p) (a : Nat) (x : Bs) (ha : a ≤ s.length) (hx : 1 ≤ x.length) (hl : s.length + x.length ≤ 1048576) :
    Calls Tryd.prog 45 #[ptr b, .int .i64 (a : Int), str x] w (Edt F b mx (s.take a ++ (x ++ s.drop a)) p w (.tuple #[])) := by
  obtain ⟨V, qs, U, hX, hC, hF, hs, hsnd, hsl, hp⟩ := h
  have HW := Lib.hid (with_bx hX rfl (a - 1) (by omega))
  have e0 : max ((a : Int) - 1) 0 = ((a - 1 : Nat) : Int) := by omega
  have HX := Lib.hid hX
  have HC := Lib.hid hC
  have HF := Lib.hid hF
  have HS := Lib.hid hs
  have HSN := Lib.hid hsnd
  obtain ⟨c0, c1, c2, c3, cf⟩ := hX.cells
  have cf1 := cf 1
  obtain ⟨Av, cv, rfl, k1, k2, k3, k4⟩ := own_see hX.row
  have h4 := hX.h4
  have h5 := hX.h5
  have hlb := hX.lt
  have hcl : qs.length ≤ 2097152 := by simpa using hX.cl
  rw [List.length_map] at *
  rcases Nat.eq_zero_or_pos qs.length with hq | hq
  · have hqs : qs = [] := List.eq_nil_of_length_eq_zero hq
    have hse : s = [] := by rw [← hs, hqs]; rfl
    have HE := Lib.hid (show s.take a ++ (x ++ s.drop a) = x by rw [hse]; simp)
    have hp0 : p ≤ x.length := by rw [hse] at hp; simp at hp; omega
    rw [HE.out]
    have HSH := Lib.hid (share_any c0 hlb h4 h5 x hx (by omega))
    have HI := Lib.hid (show (txs qs).flatten.length ≤ a - 1 by rw [hs, hse]; simp)
    clear hX hC hF hs hsnd k3 k4 hse
    go_enter Tryd.func45, Tryd.ntmps45
    go_wp2_with fail
    refine HW.out.mono ?_
    rintro e w1 ⟨i, rfl, hi, rfl⟩
    have hi1 : i = qs.length := by have := hi.out_ HI.out; simpa using this
    subst hi1
    clear hi
    go_wp2_with fail
    refine HSH.out.mono ?_
    rintro e w2 ⟨V2, N, rfl, hO, hN, hf, hb, hlen, hB⟩
    have HP := Lib.hid (put_first HX.out hB hO hN (by
      rw [hlen]
      have := share_few h4 hx
      omega))
    have HNS := Lib.hid (snd_share h4 hx hf hb (by simpa using hlen))
    have HNF := Lib.hid hf
    obtain ⟨p0, p1, p2, p3, pf⟩ := (HX.out.on hB).cells
    have pf1 := pf 1
    obtain ⟨A2, c2', rfl, _⟩ := own_see hO
    clear hO hN hf hb hlen hB p0 p2 p3 pf
    go_wp2_with fail
    refine (count_bx HP.out.1 HP.out.2.1 0 (Nat.zero_le _) (Nat.zero_le _) (by simp) (by rw [HNF.out]; omega)).mono ?_
    intro e w3 hcn
    have hd := Cnt.edt hcn HP.out.2.2 HF.out HNF.out HNS.out (by omega) hp0
    obtain ⟨rfl, hd1, hd2⟩ := hd
    have HD := Lib.hid (And.intro hd1 hd2)
    clear hcn hd1 hd2
    go_wp2_with fail
    go_end0
    exact ⟨rfl, HD.out.1, HD.out.2⟩
  · have HI := Lib.hid (show a - 1 < (txs qs).flatten.length by
      rw [hs]
      have : 1 ≤ s.length := by
        rw [← hs]
        have hq' : 0 < (txs qs).length := by simpa using hq
        have h1 := (hsnd.1 (txs qs)[0] (List.getElem_mem hq')).1
        have h2 := flat_part hq'
        rw [h2]; simp at h1 ⊢; omega
      omega)
    rcases k4 with ⟨_, _, k5⟩ | ⟨r, rfl, _, k5, _, k6⟩
    · omega
    have HK6 := Lib.hid k6
    clear hX hC hF hs hsnd k3 k6
    go_enter Tryd.func45, Tryd.ntmps45
    go_wp2_with fail
    refine HW.out.mono ?_
    rintro e w1 ⟨i, rfl, hi, rfl⟩
    have hiT := hi.in_ HI.out
    have hin : i < qs.length := by simpa using hiT
    obtain ⟨A, ⟨c, g, t⟩, B, hqs, hAl⟩ := part_q hin
    have HQ := Lib.hid hqs
    have hT : txs qs = txs A ++ t :: txs B := by rw [hqs]; simp
    have HT := Lib.hid hT
    have hst : st (txs qs) i = (txs A).flatten.length := by
      rw [hT, st, List.take_left' (by simpa using hAl)]
    have hlo := hi.2.1
    have hhi := hi.2.2 hiT
    have hTi : (txs qs)[i] = t := by simp [hqs, ← hAl]
    rw [st_succ hiT, hTi] at hhi
    have HST := Lib.hid (show stE (ends (txs qs)) i = st (txs qs) i from stE_ends (by omega))
    have HSS := Lib.hid (show ∀ W, Below w.heap.size w W → Calls Tryd.prog 46 #[ptr b, .int .i64 (i : Int)] W fun e w' => e = .returned (.int .i64 (st (txs qs) i : Nat)) ∧ W = w' from fun W hb => by
      have hst := start_bx (HX.out.on hb) i (by rw [ends_len]; omega)
      rw [HST.out] at hst
      exact hst)
    have HSTA := Lib.hid hst
    have m3 := HK6.out i (ptr c) (by simp [hqs, ← hAl])
    obtain ⟨fc, fg, q0, hck⟩ := (hqs ▸ HC.out : Chs w F mx (A ++ ⟨c, g, t⟩ :: B)).at_
    simp only at fc fg hck
    have HCK := Lib.hid hck
    have hckl := hck.len
    obtain ⟨k, hk⟩ : ∃ k, a = st (txs qs) i + k := ⟨a - st (txs qs) i, by omega⟩
    have hkt : k ≤ t.length := by omega
    have HKA := Lib.hid hk
    have hne : decide ((i : Int) = (qs.length : Int)) = false := by simp; omega
    have hne2 : ¬ i = qs.length := by omega
    have hne3 : ((i : Int) == (qs.length : Int)) = false := by simp; omega
    have i1 : (i : Int) < (qs.length : Int) := by omega
    have hzl : st (txs qs) i ≤ 1048576 := by omega
    generalize st (txs qs) i = z at *
    have wq : IntKind.i64.wrap ((a : Int) - (z : Int)) = (k : Int) := (IntWalk.i64_in _ (by omega)).trans (by omega)
    have HCE := Lib.hid (show ∀ W, Below w.heap.size w W → W.cell? ⟨b, 1, none⟩ = some (.slice (some ⟨r, 0, none⟩) qs.length cv) ∧ W.cell? ⟨r, i, none⟩ = some (ptr c) from fun W hb => ⟨(hb.cell hlb).trans c1, (hb.cell k5).trans m3⟩)
    clear hi hqs hT hst hTi hck hlo hhi hk
    go_wp2_with fail
    go_region_held3 (fun W => W.cell? ⟨b, 1, none⟩ = some (.slice (some ⟨r, 0, none⟩) qs.length cv) ∧ W.cell? ⟨r, i, none⟩ = some (ptr c)) (first | exact HCE.out _ (Below.refl _ _).drew) (first
      | (go_at_call 46; refine (HSS.out _ (Below.refl _ _).drew).mono ?_; rintro e w3 ⟨rfl, rfl⟩))
    have hout : out t (k : Int) = false := out_not (by omega) (by omega)
    have HIN := Lib.hid (fun W (hb : Below w.heap.size w W) => insert_chk (HCK.out.on hb) (k : Int) x)
    by_cases hfit : mx < t.length + x.length
    · have he := insE_big hout hfit
      have hS := insS_big hout hfit
      have hP := insP_big (p := q0) hout hfit
      have HI1 := HIN.out w.drew (Below.refl _ _).drew
      rw [he, hS, hP] at HI1
      have HI2 := Lib.hid HI1
      clear HI1 he hS hP HIN
      go_wp2_with fail
      refine HI2.out.mono ?_
      rintro e w3 ⟨rfl, hk3, hx3⟩
      have hx3' : Ex c g w w3 := ⟨hx3.os, hx3.tape, hx3.output, hx3.size, hx3.block⟩
      have HX3 := Lib.hid (HX.out.past HCK.out hx3')
      have HC3 := Lib.hid ((HQ.out ▸ HC.out : Chs w F mx (A ++ ⟨c, g, t⟩ :: B)).set hx3' hk3)
      have HG3 := Lib.hid (show Gs F F w w3 from Gs.ex hx3' fc fg)
      have HK3 := Lib.hid hk3
      clear hk3 hx3 hx3'
      go_wp2_with fail
      refine (text_chk HK3.out).mono ?_
      rintro e w4 ⟨rfl, hb4⟩
      have HX4 := Lib.hid (HX3.out.on hb4)
      have HC4 := Lib.hid (HC3.out.on hb4)
      have HG4 := Lib.hid (HG3.out.below_right hb4)
      have h44 : w.heap.size ≤ w4.heap.size := HG4.out.size
      have HTX := Lib.hid (show t.length ≤ 4096 ∧ x.length ≤ 1048576 by omega)
      obtain ⟨u, hu⟩ : ∃ u, u = t.take k := ⟨_, rfl⟩
      obtain ⟨v, hv⟩ : ∃ v, v = t.drop k := ⟨_, rfl⟩
      have e2 : (⟨⟨t⟩⟩ : ByteArray).extract 0 k = ⟨⟨u⟩⟩ := by rw [bs_ext, hu]; simp
      have e3 : (⟨⟨t⟩⟩ : ByteArray).extract k t.length = ⟨⟨v⟩⟩ := by rw [bs_ext, hv, List.take_of_length_le (Nat.le_refl _)]
      have e4 : (⟨⟨u⟩⟩ : ByteArray) ++ ⟨⟨x⟩⟩ = ⟨⟨u ++ x⟩⟩ := bs_app _ _
      obtain ⟨y, hy⟩ : ∃ y, y = t.take k ++ (x ++ t.drop k) := ⟨_, rfl⟩
      have e5 : (⟨⟨u ++ x⟩⟩ : ByteArray) ++ ⟨⟨v⟩⟩ = ⟨⟨y⟩⟩ := by rw [bs_app, List.append_assoc, hy, hu, hv]
      have lu : u.length ≤ 4096 := by rw [hu]; simp; omega
      have lv : v.length ≤ 4096 := by rw [hv]; simp; omega
      have s1 : ¬ 9223372036854775807 < u.length + x.length := by omega
      have s2 : ¬ 9223372036854775807 < u.length + x.length + v.length := by omega
      have s3 : ¬ 9223372036854775807 < (u ++ x).length + v.length := by rw [List.length_append]; omega
      have i2 : (k : Int) ≤ (t.length : Int) := by omega
      have HL := Lib.hid (show y.length = t.length + x.length by rw [hy]; exact put_len hkt)
      have HY := Lib.hid hy
      have HSH := Lib.hid (share_any (w := w4.drew) HX4.out.cells.1 HX4.out.lt h4 h5 y (by rw [HL.out]; omega) (by rw [HL.out]; omega))
      have wi1 : IntKind.i64.wrap ((i : Int) + 1) = ((i + 1 : Nat) : Int) := (IntWalk.i64_in _ (by omega)).trans (by omega)
      clear hu hv hy lu lv
      have HS4 := Lib.hid (show w4.drew.cell? ⟨b, 1, none⟩ = some (.slice (some ⟨r, 0, none⟩) qs.length cv) ∧ w4.drew.frozen? ⟨b, 1, none⟩ = false from ⟨HX4.out.cells.2.1, HX4.out.cells.2.2.2.2 1⟩)
      clear hb4
      go_wp2_with fail
      have hs41 := HS4.out.1
      have hs42 := HS4.out.2
      go_region_with (first
        | (go_at_call 57; refine HSH.out.mono ?_; rintro e w5 ⟨V2, N, rfl, hO, hN, hf, hb, hlen, hB⟩; obtain ⟨A2, c2', rfl, _⟩ := own_see hO
           have HB5 := Lib.hid (undrew hB)
           have HS5 := Lib.hid (show w5.cell? ⟨b, 1, none⟩ = some (.slice (some ⟨r, 0, none⟩) qs.length cv) ∧ w5.frozen? ⟨b, 1, none⟩ = false from ⟨(HX4.out.on HB5.out).cells.2.1, (HX4.out.on HB5.out).cells.2.2.2.2 1⟩)
           have hs51 := HS5.out.1
           have hs52 := HS5.out.2
           have HO := Lib.hid hO
           have hfw := share_few h4 (show 1 ≤ y.length by rw [HL.out]; omega)
           rw [← hlen] at hfw
           have HN := Lib.hid (And.intro hN (And.intro hf (And.intro hb hlen)))
           have HREP := Lib.hid (rep_own (cs := qs.map Q.c) (vs := N.map Q.c) (i := i) (j := i + 1) (by simp) (HX4.out.on HB5.out).row hO (fun r' hr' => by
             simp only [Value.ownBlock, Option.some.injEq] at hr'; show r' < w4.heap.size; omega) (fun hnil => by rw [List.map_eq_nil_iff] at hnil; rw [hnil] at hfw; exact absurd hfw.1 (by simp)) (by omega) (by simp; omega) (by simp; omega) (by
             have := HL.out; have := hfw.2.1; simp; omega))
           clear hfw
           clear hO hN hf hb hlen hB)
        | (go_at_call 60; refine HREP.out.mono ?_; rintro e w6 ⟨V6, rfl, hO6, hg6, hn6⟩; obtain ⟨A6, l6, c6, rfl⟩ := own_any hO6
           have HS6 := Lib.hid (show w6.cell? ⟨b, 1, none⟩ = some (.slice (some ⟨r, 0, none⟩) qs.length cv) ∧ w6.frozen? ⟨b, 1, none⟩ = false by
             have hX5 := HX4.out.on HB5.out
             have e := hg6.block _ hX5.lt (fun e => hX5.neV e.symm rfl)
             have f := HS5.out.2
             refine ⟨(World.cell?_of_block e).trans HS5.out.1, ?_⟩
             simp only [World.frozen?, e] at f ⊢; exact f)
           have hs61 := HS6.out.1
           have hs62 := HS6.out.2
           have H6 := Lib.hid (And.intro hO6 (And.intro hg6 hn6))
           clear hO6 hg6 hn6))
      all_goals (
        have HTXN := Lib.hid (show txs (A ++ (N ++ B)) = txs A ++ (txs N ++ txs B) by simp)
        have HFL := Lib.hid (show (txs A ++ (txs N ++ txs B)).flatten = s.take a ++ (x ++ s.drop a) from put_mid (by rw [← HT.out]; exact HS.out) (by rw [← HSTA.out]; exact HKA.out) hkt (HN.out.2.1.trans HY.out))
        have HSN3 := Lib.hid (show Snd mx (txs A ++ (txs N ++ txs B)) from snd_mid_new h4 (by rw [← HT.out]; exact HSN.out) (fun hnil => by
          have h1 := share_few h4 (show 1 ≤ y.length by rw [HL.out]; omega)
          rw [← HN.out.2.2.2, List.map_eq_nil_iff.1 hnil] at h1
          exact absurd h1.1 (by simp)) HN.out.2.2.1 (share_half h4 (by rw [HL.out]; exact hfit)))
        have hlen : (A ++ (N ++ B)).length ≤ 2097152 := by
          have h1 := snd_many (T := txs (A ++ (N ++ B))) (by rw [HTXN.out]; exact fun t ht => (HSN3.out.1 t ht).1)
          rw [HTXN.out, HFL.out, put_len ha] at h1
          simp at h1 ⊢; omega
        have HPE := Lib.hid (put_end HX4.out HC4.out HG4.out HF.out HQ.out hAl HB5.out HN.out.1 H6.out.1 H6.out.2.1 H6.out.2.2 hlen)
        have HEN := Lib.hid (show (ends (txs qs)).take i = (ends (txs (A ++ (N ++ B)))).take i from
          ends_same (by rw [HT.out, HTXN.out]; exact take_set (by simpa using hAl)) (by omega) (by simp; omega))
        have HCB := Lib.hid (count_bx HPE.out.1 HPE.out.2.1 i (by simp; omega) (by rw [ends_len]; omega) HEN.out (by rw [HTXN.out, HFL.out, put_len ha]; exact hl))
        clear hlen
        go_wp2_with fail
        refine HCB.out.mono ?_
        intro e w7 hcn
        have hd := Cnt.edt (s := s.take a ++ (x ++ s.drop a)) hcn HPE.out.2.2 HF.out (by rw [HTXN.out]; exact HFL.out) (by rw [HTXN.out]; exact HSN3.out) (by rw [put_len ha]; exact hl) (by rw [put_len ha]; omega)
        obtain ⟨rfl, hd1, hd2⟩ := hd
        have HD := Lib.hid (And.intro hd1 hd2)
        clear hcn hd1 hd2
        go_wp2_with fail
        go_end0
        exact ⟨rfl, HD.out.1, HD.out.2⟩)
    · have he := insE_in hout hfit
      have hS := insS_in hout hfit
      have hP := insP_in (p := q0) hout hfit
      rw [Int.toNat_natCast] at hS hP
      have HI1 := HIN.out w.drew (Below.refl _ _).drew
      rw [he, hS, hP] at HI1
      have HI2 := Lib.hid HI1
      clear HI1 he hS hP HIN
      go_wp2_with fail
      refine HI2.out.mono ?_
      rintro e w3 ⟨rfl, hk3, hx3⟩
      have hx3' : Ex c g w w3 := ⟨hx3.os, hx3.tape, hx3.output, hx3.size, hx3.block⟩
      have HX3 := Lib.hid (HX.out.past HCK.out hx3')
      have HC3 := Lib.hid ((HQ.out ▸ HC.out : Chs w F mx (A ++ ⟨c, g, t⟩ :: B)).set hx3' hk3)
      have HG3 := Lib.hid (show Gs F F w w3 from Gs.ex hx3' fc fg)
      have hmap : qs.map Q.c = (A ++ ⟨c, g, t.take k ++ (x ++ t.drop k)⟩ :: B).map Q.c := by rw [HQ.out]; simp
      have HTX := Lib.hid (show txs (A ++ ⟨c, g, t.take k ++ (x ++ t.drop k)⟩ :: B) = txs A ++ (t.take k ++ (x ++ t.drop k)) :: txs B by simp)
      have HFL := Lib.hid (show (txs A ++ (t.take k ++ (x ++ t.drop k)) :: txs B).flatten = s.take a ++ (x ++ s.drop a) from put_one (by rw [← HT.out]; exact HS.out) (by rw [← HSTA.out]; exact HKA.out) hkt)
      have HSN3 := Lib.hid (show Snd mx (txs A ++ (t.take k ++ (x ++ t.drop k)) :: txs B) from snd_mid_grow (by rw [← HT.out]; exact HSN.out) (by rw [put_len hkt]; omega) (by rw [put_len hkt]; omega))
      have HEN := Lib.hid (show (ends (txs qs)).take i = (ends (txs (A ++ ⟨c, g, t.take k ++ (x ++ t.drop k)⟩ :: B))).take i from
        ends_same (by rw [HT.out, HTX.out]; exact take_set (by simpa using hAl)) (by omega) (by simp; omega))
      have HCB := Lib.hid (count_bx (F := Fn F w w3) (w := w3) (qs := A ++ ⟨c, g, t.take k ++ (x ++ t.drop k)⟩ :: B) (by rw [← hmap]; exact HX3.out.mono fun k hk => .inl hk) (HC3.out.mono fun k hk => .inl hk) i (by simp; omega) (by rw [ends_len]; omega) HEN.out (by rw [HTX.out, HFL.out, put_len ha]; exact hl))
      clear hk3 hx3 hx3' hmap
      go_wp2_with fail
      refine HCB.out.mono ?_
      intro e w4 hcn
      have hd := Cnt.edt (s := s.take a ++ (x ++ s.drop a)) hcn (HG3.out.to fun k hk => hk.imp id And.left) HF.out (by rw [HTX.out]; exact HFL.out) (by rw [HTX.out]; exact HSN3.out) (by rw [put_len ha]; exact hl) (by rw [put_len ha]; omega)
      obtain ⟨rfl, hd1, hd2⟩ := hd
      have HD := Lib.hid (And.intro hd1 hd2)
      clear hcn hd1 hd2
      go_wp2_with fail
      go_end0
      exact ⟨rfl, HD.out.1, HD.out.2⟩
end Go.Proofs.YtdpjcbljeklhmaaDoor
