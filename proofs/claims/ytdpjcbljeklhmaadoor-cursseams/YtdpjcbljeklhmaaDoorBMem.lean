/-
  A buffer in memory: its block, the rows of its chunks and of their ends, the chunks; what stays where only some of its blocks are written. Plain facts about cells; no function is walked.
-/
import Derived.Test.YtdpjcbljeklhmaaDoorW10
import Derived.Test.YtdpjcbljeklhmaaDoorBPlain
namespace Go.Proofs.YtdpjcbljeklhmaaDoor
open Go.RowKit ObGap

/-- All but the blocks of F stay; what F' has is of F, or new. -/
structure Gs (F F' : Nat → Prop) (w w' : World) : Prop where
  os : w'.os = w.os
  tape : w'.tape = w.tape
  output : w'.output = w.output
  size : w.heap.size ≤ w'.heap.size
  block : ∀ k, k < w.heap.size → ¬ F k → w'.heap[k]? = w.heap[k]?
  more : ∀ k, F' k → F k ∨ w.heap.size ≤ k
theorem Gs.of {F : Nat → Prop} {w w' : World} (h : Below w.heap.size w w') : Gs F F w w' := ⟨h.os, h.tape, h.output, h.size, fun k hk _ => h.block k hk, fun _ h => .inl h⟩
theorem Gs.refl (F : Nat → Prop) (w : World) : Gs F F w w := Gs.of (Below.refl _ _)
theorem Gs.trans {F G H : Nat → Prop} {a b c : World} (h : Gs F G a b) (k : Gs G H b c) : Gs F H a c :=
  ⟨k.os.trans h.os, k.tape.trans h.tape, k.output.trans h.output, Nat.le_trans h.size k.size,
    fun i hi hn => (k.block i (by have := h.size; omega) (fun hg => (h.more i hg).elim hn (fun h1 => by omega))).trans (h.block i hi hn),
    fun i hi => by
      rcases k.more i hi with h1 | h1
      · exact h.more i h1
      · exact .inr (Nat.le_trans h.size h1)⟩
theorem Gs.ex {F : Nat → Prop} {c g : Nat} {w w' : World} (h : Ex c g w w') (hc : F c) (hg : F g) : Gs F F w w' :=
  ⟨h.os, h.tape, h.output, h.size, fun k hk hn => h.block k hk (fun e => hn (e ▸ hc)) (fun e => hn (e ▸ hg)), fun _ h => .inl h⟩
theorem Gs.grown {F : Nat → Prop} {w w' : World} {row : Option Nat} (h : w.grownBy w' row) (hr : ∀ k, row = some k → F k) : Gs F F w w' :=
  ⟨h.os, h.tape, h.output, h.size, fun k hk hn => h.block k hk (fun e => hn (hr k e.symm)), fun _ h => .inl h⟩
theorem Gs.set {F : Nat → Prop} (w : World) {b : Nat} (hb : F b) (i : Nat) (v : Value) : Gs F F w (w.setCell ⟨b, i, none⟩ v) :=
  ⟨rfl, rfl, rfl, by simp [World.setCell], fun k _ hn => Below.heap_setCell _ _ _ _ (fun e => hn (e ▸ hb)), fun _ h => .inl h⟩
theorem Gs.to {F G H : Nat → Prop} {w w' : World} (h : Gs F G w w') (hH : ∀ k, H k → G k ∨ w.heap.size ≤ k) : Gs F H w w' :=
  ⟨h.os, h.tape, h.output, h.size, h.block, fun k hk => by
    rcases hH k hk with h1 | h1
    · exact h.more k h1
    · exact .inr h1⟩
theorem Gs.from_ {F G H : Nat → Prop} {w w' : World} (h : Gs F G w w') (hH : ∀ k, F k → H k) : Gs H G w w' :=
  ⟨h.os, h.tape, h.output, h.size, fun k hk hn => h.block k hk (fun hf => hn (hH k hf)), fun k hk => (h.more k hk).imp (hH k) id⟩
theorem Gs.below {F G : Nat → Prop} {B : Nat} {w w' : World} (h : Gs F G w w') (hF : ∀ k, F k → B ≤ k) (hB : B ≤ w.heap.size) : Below B w w' :=
  ⟨h.os, h.tape, h.output, h.size, fun k hk => h.block k (by omega) (fun hf => by have := hF k hf; omega)⟩
theorem Gs.drews {F G : Nat → Prop} {w w' : World} (h : Gs F G w w') (n : Nat) : Gs F G w (w'.drewN n) := ⟨h.os, h.tape, h.output, h.size, h.block, h.more⟩
theorem Gs.drew {F G : Nat → Prop} {w w' : World} (h : Gs F G w w') : Gs F G w w'.drew := ⟨h.os, h.tape, h.output, h.size, h.block, h.more⟩

/-- A chunk: its block, its room's block, its text. -/
structure Q where
  c : Nat
  g : Nat
  s : Bs
abbrev txs (qs : List Q) : List Bs := qs.map Q.s
/-- The chunks of a list, each of that size, no two in one block. -/
def Chs (w : World) (F : Nat → Prop) (mx : Nat) (qs : List Q) : Prop :=
  (∀ q ∈ qs, F q.c ∧ F q.g ∧ ∃ p, Chk w q.c q.g mx q.s p) ∧ (qs.map Q.c).Nodup ∧ (qs.map Q.g).Nodup
theorem Chk.tc {w : World} {c g mx : Nat} {s : Bs} {p : Nat} (h : Chk w c g mx s p) : ∃ a, w.heap[c]? = some (.cells a 90 (0, 0)) := by
  obtain ⟨L, K, r, h, _⟩ := h; exact ⟨_, h.1⟩
theorem Chk.tg {w : World} {c g mx : Nat} {s : Bs} {p : Nat} (h : Chk w c g mx s p) : ∃ a, w.heap[g]? = some (.cells a 5 (0, 0)) := by
  obtain ⟨L, K, r, h, _⟩ := h; obtain ⟨Z, hZ, _⟩ := h.2.1; exact ⟨_, hZ⟩
theorem ty_ne {w : World} {i j : Nat} {a b : Array Value} {t u : TypeId} (h1 : w.heap[i]? = some (.cells a t (0, 0))) (h2 : w.heap[j]? = some (.cells b u (0, 0))) (h : t ≠ u) : i ≠ j := by
  intro e
  subst e
  rw [h1] at h2
  injection h2 with h2
  injection h2 with _ h2
  exact h h2
theorem Chk.keep {w w' : World} {c g mx : Nat} {s : Bs} {p : Nat} (h : Chk w c g mx s p) (e1 : w'.heap[c]? = w.heap[c]?) (e2 : w'.heap[g]? = w.heap[g]?) : Chk w' c g mx s p := by
  obtain ⟨L, K, r, h, e⟩ := h; exact ⟨L, K, r, h.keep e1 e2, e⟩
theorem Chs.keep {w w' : World} {F : Nat → Prop} {mx : Nat} {qs : List Q} (h : Chs w F mx qs) (e : ∀ k, k < w.heap.size → F k → w'.heap[k]? = w.heap[k]?) : Chs w' F mx qs :=
  ⟨fun q hq => by
    obtain ⟨h1, h2, p, h3⟩ := h.1 q hq
    exact ⟨h1, h2, p, h3.keep (e _ h3.lt.1 h1) (e _ h3.lt.2 h2)⟩, h.2⟩
theorem Chs.on {w w' : World} {F : Nat → Prop} {mx : Nat} {qs : List Q} (h : Chs w F mx qs) (hb : Below w.heap.size w w') : Chs w' F mx qs := h.keep fun k hk _ => hb.block k hk
theorem Chs.mono {w : World} {F G : Nat → Prop} {mx : Nat} {qs : List Q} (h : Chs w F mx qs) (hG : ∀ k, F k → G k) : Chs w G mx qs :=
  ⟨fun q hq => by obtain ⟨h1, h2, h3⟩ := h.1 q hq; exact ⟨hG _ h1, hG _ h2, h3⟩, h.2⟩
theorem Chs.nil (w : World) (F : Nat → Prop) (mx : Nat) : Chs w F mx [] := ⟨by simp, by simp, by simp⟩
theorem Chs.sub {w : World} {F : Nat → Prop} {mx : Nat} {qs rs : List Q} (h : Chs w F mx qs) (hs : rs.Sublist qs) : Chs w F mx rs :=
  ⟨fun q hq => h.1 q (hs.subset hq), h.2.1.sublist (hs.map _), h.2.2.sublist (hs.map _)⟩
theorem Chs.at_ {w : World} {F : Nat → Prop} {mx : Nat} {A B : List Q} {q : Q} (h : Chs w F mx (A ++ q :: B)) : F q.c ∧ F q.g ∧ ∃ p, Chk w q.c q.g mx q.s p := h.1 q (by simp)
theorem nodup_mid {A B : List Nat} {x : Nat} (h : (A ++ x :: B).Nodup) : ∀ y, y ∈ A ∨ y ∈ B → y ≠ x := by
  rw [List.nodup_append] at h
  intro y hy e
  subst e
  rcases hy with hy | hy
  · exact h.2.2 y hy y (by simp) rfl
  · exact (List.nodup_cons.1 h.2.1).1 hy
/-- One chunk's text turns. -/
theorem Chs.set {w w' : World} {F : Nat → Prop} {mx : Nat} {A B : List Q} {c g : Nat} {s s' : Bs} {p : Nat} (h : Chs w F mx (A ++ ⟨c, g, s⟩ :: B)) (hx : Ex c g w w') (hk : Chk w' c g mx s' p) : Chs w' F mx (A ++ ⟨c, g, s'⟩ :: B) := by
  obtain ⟨f1, f2, p0, hk0⟩ := h.at_
  have n1 := h.2.1
  have n2 := h.2.2
  simp only [List.map_append, List.map_cons] at n1 n2
  refine ⟨fun q hq => ?_, by simpa using n1, by simpa using n2⟩
  have old : ∀ q, q ∈ A ∨ q ∈ B → F q.c ∧ F q.g ∧ ∃ p, Chk w' q.c q.g mx q.s p := by
    intro q hq
    obtain ⟨g1, g2, p1, k1⟩ := h.1 q (by rcases hq with h | h <;> simp [h])
    obtain ⟨a1, t1⟩ := k1.tc
    obtain ⟨a2, t2⟩ := k1.tg
    obtain ⟨a3, t3⟩ := hk0.tc
    obtain ⟨a4, t4⟩ := hk0.tg
    have m1 := nodup_mid n1 q.c (hq.imp (fun h => List.mem_map_of_mem h) (fun h => List.mem_map_of_mem h))
    have m2 := nodup_mid n2 q.g (hq.imp (fun h => List.mem_map_of_mem h) (fun h => List.mem_map_of_mem h))
    exact ⟨g1, g2, p1, k1.past hx m1 (ty_ne t1 t4 (by decide)) (ty_ne t2 t3 (by decide)) m2⟩
  rcases List.mem_append.1 hq with hq | hq
  · exact old q (.inl hq)
  · rcases List.mem_cons.1 hq with rfl | hq
    · exact ⟨f1, f2, p, hk⟩
    · exact old q (.inr hq)
/-- New chunks in the place of one. -/
theorem Chs.mid {w : World} {F : Nat → Prop} {mx : Nat} {A N B : List Q} {q : Q} (h : Chs w F mx (A ++ q :: B)) (hN : Chs w F mx N) (hn : ∀ x ∈ N, ∀ y ∈ A ++ B, x.c ≠ y.c ∧ x.g ≠ y.g) : Chs w F mx (A ++ (N ++ B)) := by
  have hAB : Chs w F mx (A ++ B) := h.sub (by simp)
  refine ⟨fun x hx => ?_, ?_, ?_⟩
  · simp only [List.mem_append] at hx
    rcases hx with hx | hx | hx
    · exact hAB.1 x (by simp [hx])
    · exact hN.1 x hx
    · exact hAB.1 x (by simp [hx])
  · have h1 := hAB.2.1
    have h2 := hN.2.1
    simp only [List.map_append, List.nodup_append] at h1 ⊢
    refine ⟨h1.1, ⟨h2, h1.2.1, ?_⟩, ?_⟩
    · intro a ha b hb
      obtain ⟨x, hx, rfl⟩ := List.mem_map.1 ha
      obtain ⟨y, hy, rfl⟩ := List.mem_map.1 hb
      exact (hn x hx y (by simp [hy])).1
    · intro a ha b hb
      rcases List.mem_append.1 hb with hb | hb
      · obtain ⟨x, hx, rfl⟩ := List.mem_map.1 hb
        obtain ⟨y, hy, rfl⟩ := List.mem_map.1 ha
        exact Ne.symm (hn x hx y (by simp [hy])).1
      · exact h1.2.2 a ha b hb
  · have h1 := hAB.2.2
    have h2 := hN.2.2
    simp only [List.map_append, List.nodup_append] at h1 ⊢
    refine ⟨h1.1, ⟨h2, h1.2.1, ?_⟩, ?_⟩
    · intro a ha b hb
      obtain ⟨x, hx, rfl⟩ := List.mem_map.1 ha
      obtain ⟨y, hy, rfl⟩ := List.mem_map.1 hb
      exact (hn x hx y (by simp [hy])).2
    · intro a ha b hb
      rcases List.mem_append.1 hb with hb | hb
      · obtain ⟨x, hx, rfl⟩ := List.mem_map.1 hb
        obtain ⟨y, hy, rfl⟩ := List.mem_map.1 ha
        exact Ne.symm (hn x hx y (by simp [hy])).2
      · exact h1.2.2 a ha b hb

theorem own_keep {w w' : World} {base : Nat} {e : TypeId} {size : Nat} {v : Value} {n : Nat} {xs : List Value} (h : w.ownsRow base e size v n xs) (hk : ∀ g, v.ownBlock = some g → w'.heap[g]? = w.heap[g]?) : w'.ownsRow base e size v n xs := by
  refine ⟨h.1, ?_⟩
  rcases h.2 with hn | ⟨g, cap, cur, rfl, hb, hgg, rest⟩
  · exact .inl hn
  · exact .inr ⟨g, cap, cur, rfl, hb, (hk g rfl).trans hgg, rest⟩
theorem own_ty {w : World} {base : Nat} {e : TypeId} {size : Nat} {v : Value} {n : Nat} {xs : List Value} (h : w.ownsRow base e size v n xs) {g : Nat} (hg : v.ownBlock = some g) : ∃ a, w.heap[g]? = some (.cells a e (0, 0)) := by
  rcases h.2 with ⟨rfl, _⟩ | ⟨g', cap, cur, rfl, hb, hgg, _⟩
  · cases hg
  · simp only [Value.ownBlock, Option.some.injEq] at hg; subst hg; exact ⟨_, hgg⟩
/-- A row of one-cell elements, seen. -/
theorem own_see {w : World} {base : Nat} {e : TypeId} {v : Value} {n : Nat} {xs : List Value} (h : w.ownsRow base e 1 v n xs) : ∃ A cap, v = .slice A n cap ∧ n ≤ cap ∧ cap ≤ maxLen ∧ xs.length = n ∧ ((A = none ∧ cap = 0 ∧ n = 0) ∨ ∃ g, A = some ⟨g, 0, none⟩ ∧ base ≤ g ∧ g < w.heap.size ∧ (∀ i, w.frozen? ⟨g, i, none⟩ = false) ∧ (∀ i x, xs[i]? = some x → w.cell? ⟨g, i, none⟩ = some x)) := by
  have hl : xs.length = n := by simpa using h.1
  rcases h.2 with ⟨rfl, rfl⟩ | ⟨g, cap, cur, rfl, hb, hgg, h1, h2, h3, h4⟩
  · exact ⟨_, _, rfl, Nat.le_refl _, Nat.zero_le _, hl, .inl ⟨rfl, rfl, rfl⟩⟩
  · refine ⟨_, _, rfl, h1, h2, hl, .inr ⟨g, rfl, hb, lt_of_heap hgg, fun i => by simp [World.frozen?, hgg], fun i x hx => ?_⟩⟩
    have := h.cells (g := g) rfl i x hx
    rw [add_at, Nat.zero_add] at this
    exact this
abbrev ptrs (cs : List Nat) : List Value := cs.map fun c => ptr c
abbrev nums (E : List Nat) : List Value := E.map fun n : Nat => Value.int .i64 (n : Int)
/-- The buffer's block, the row of its chunks, the row of their ends. -/
structure Bx (w : World) (F : Nat → Prop) (b mx : Nat) (V : Value) (cs : List Nat) (U : Value) (E : List Nat) (p : Nat) : Prop where
  blk : w.heap[b]? = some (.cells #[.int .i64 (mx : Int), V, U, .int .i64 (p : Int)] 69 (0, 0))
  row : w.ownsRow 0 81 1 V cs.length (ptrs cs)
  en : w.ownsRow 0 3 1 U E.length (nums E)
  fb : F b
  fv : ∀ g, V.ownBlock = some g → F g
  fu : ∀ g, U.ownBlock = some g → F g
  h4 : 4 ≤ mx
  h5 : mx ≤ 4096
  cl : cs.length ≤ 2097152
  el : E.length ≤ 2097152
section
variable {w w' : World} {F G : Nat → Prop} {b mx : Nat} {V U : Value} {cs E : List Nat} {p : Nat}
theorem Bx.lt (h : Bx w F b mx V cs U E p) : b < w.heap.size := lt_of_heap h.blk
theorem Bx.keep (h : Bx w F b mx V cs U E p) (e : w'.heap[b]? = w.heap[b]?) (e1 : ∀ g, V.ownBlock = some g → w'.heap[g]? = w.heap[g]?) (e2 : ∀ g, U.ownBlock = some g → w'.heap[g]? = w.heap[g]?) : Bx w' F b mx V cs U E p :=
  ⟨e.trans h.blk, own_keep h.row e1, own_keep h.en e2, h.fb, h.fv, h.fu, h.h4, h.h5, h.cl, h.el⟩
theorem Bx.on (h : Bx w F b mx V cs U E p) (hb : Below w.heap.size w w') : Bx w' F b mx V cs U E p :=
  h.keep (hb.block _ h.lt) (fun g hg => hb.block _ (h.row.lt g hg).2) (fun g hg => hb.block _ (h.en.lt g hg).2)
theorem Bx.mono (h : Bx w F b mx V cs U E p) (hG : ∀ k, F k → G k) : Bx w G b mx V cs U E p :=
  ⟨h.blk, h.row, h.en, hG _ h.fb, fun g hg => hG _ (h.fv g hg), fun g hg => hG _ (h.fu g hg), h.h4, h.h5, h.cl, h.el⟩
/-- A chunk of its own turns. -/
theorem Bx.past (h : Bx w F b mx V cs U E p) {c g m : Nat} {s : Bs} {q : Nat} (hk : Chk w c g m s q) (hx : Ex c g w w') : Bx w' F b mx V cs U E p := by
  obtain ⟨a1, t1⟩ := hk.tc
  obtain ⟨a2, t2⟩ := hk.tg
  refine h.keep (hx.block _ h.lt (ty_ne h.blk t1 (by decide)) (ty_ne h.blk t2 (by decide))) (fun k hk => ?_) (fun k hk => ?_)
  · obtain ⟨a, ht⟩ := own_ty h.row hk
    exact hx.block _ (h.row.lt k hk).2 (ty_ne ht t1 (by decide)) (ty_ne ht t2 (by decide))
  · obtain ⟨a, ht⟩ := own_ty h.en hk
    exact hx.block _ (h.en.lt k hk).2 (ty_ne ht t1 (by decide)) (ty_ne ht t2 (by decide))
theorem Bx.cells (h : Bx w F b mx V cs U E p) : w.cell? ⟨b, 0, none⟩ = some (.int .i64 (mx : Int)) ∧ w.cell? ⟨b, 1, none⟩ = some V ∧ w.cell? ⟨b, 2, none⟩ = some U ∧ w.cell? ⟨b, 3, none⟩ = some (.int .i64 (p : Int)) ∧ (∀ i, w.frozen? ⟨b, i, none⟩ = false) := by
  have h1 := h.blk
  refine ⟨by simp [World.cell?, h1], by simp [World.cell?, h1], by simp [World.cell?, h1], by simp [World.cell?, h1], fun i => by simp [World.frozen?, h1]⟩
theorem Bx.neV (h : Bx w F b mx V cs U E p) {g : Nat} (hg : V.ownBlock = some g) : g ≠ b := by
  obtain ⟨a, ht⟩ := own_ty h.row hg; exact ty_ne ht h.blk (by decide)
theorem Bx.neU (h : Bx w F b mx V cs U E p) {g : Nat} (hg : U.ownBlock = some g) : g ≠ b := by
  obtain ⟨a, ht⟩ := own_ty h.en hg; exact ty_ne ht h.blk (by decide)
theorem Bx.neVU (h : Bx w F b mx V cs U E p) {g k : Nat} (hg : V.ownBlock = some g) (hk : U.ownBlock = some k) : g ≠ k := by
  obtain ⟨a, ht⟩ := own_ty h.row hg; obtain ⟨a2, ht2⟩ := own_ty h.en hk; exact ty_ne ht ht2 (by decide)
theorem Bx.put3 (h : Bx w F b mx V cs U E p) (q : Nat) : Bx (w.setCell ⟨b, 3, none⟩ (.int .i64 (q : Int))) F b mx V cs U E q := by
  have hs := heap_set 3 (.int .i64 (q : Int)) h.blk
  refine ⟨by simpa using hs, own_keep h.row fun g hg => ?_, own_keep h.en fun g hg => ?_, h.fb, h.fv, h.fu, h.h4, h.h5, h.cl, h.el⟩
  · exact Below.heap_setCell _ _ _ _ (h.neV hg)
  · exact Below.heap_setCell _ _ _ _ (h.neU hg)
/-- The row of ends laid anew. -/
theorem Bx.put2 (h : Bx w F b mx V cs U E p) {U' : Value} {E' : List Nat} (hr : w.ownsRow 0 3 1 U' E'.length (nums E')) (hf : ∀ g, U'.ownBlock = some g → F g) (hl : E'.length ≤ 2097152) : Bx (w.setCell ⟨b, 2, none⟩ U') F b mx V cs U' E' p := by
  have hs := heap_set 2 U' h.blk
  refine ⟨by simpa using hs, own_keep h.row fun g hg => ?_, own_keep hr fun g hg => ?_, h.fb, h.fv, hf, h.h4, h.h5, h.cl, hl⟩
  · exact Below.heap_setCell _ _ _ _ (h.neV hg)
  · obtain ⟨a, ht⟩ := own_ty hr hg
    exact Below.heap_setCell _ _ _ _ (ty_ne ht h.blk (by decide))
/-- The row of chunks laid anew. -/
theorem Bx.put1 (hb : w.heap[b]? = some (.cells #[.int .i64 (mx : Int), V, U, .int .i64 (p : Int)] 69 (0, 0))) (he : w.ownsRow 0 3 1 U E.length (nums E)) (fb : F b) (fu : ∀ g, U.ownBlock = some g → F g) (h4 : 4 ≤ mx) (h5 : mx ≤ 4096) (el : E.length ≤ 2097152)
    {V' : Value} {cs' : List Nat} (hr : w.ownsRow 0 81 1 V' cs'.length (ptrs cs')) (hf : ∀ g, V'.ownBlock = some g → F g) (hl : cs'.length ≤ 2097152) : Bx (w.setCell ⟨b, 1, none⟩ V') F b mx V' cs' U E p := by
  have hs := heap_set 1 V' hb
  refine ⟨by simpa using hs, own_keep hr fun g hg => ?_, own_keep he fun g hg => ?_, fb, hf, fu, h4, h5, hl, el⟩
  · obtain ⟨a, ht⟩ := own_ty hr hg
    exact Below.heap_setCell _ _ _ _ (ty_ne ht hb (by decide))
  · obtain ⟨a, ht⟩ := own_ty he hg
    exact Below.heap_setCell _ _ _ _ (ty_ne ht hb (by decide))
end
/-- A store into the buffer's block turns no chunk. -/
theorem Chs.setb {w : World} {F : Nat → Prop} {mx : Nat} {qs : List Q} (h : Chs w F mx qs) {b : Nat} {a : Array Value} (hb : w.heap[b]? = some (.cells a 69 (0, 0))) (i : Nat) (v : Value) : Chs (w.setCell ⟨b, i, none⟩ v) F mx qs :=
  ⟨fun q hq => by
    obtain ⟨h1, h2, p, h3⟩ := h.1 q hq
    obtain ⟨a1, t1⟩ := h3.tc
    obtain ⟨a2, t2⟩ := h3.tg
    exact ⟨h1, h2, p, h3.keep (Below.heap_setCell _ _ _ _ (ty_ne t1 hb (by decide))) (Below.heap_setCell _ _ _ _ (ty_ne t2 hb (by decide)))⟩, h.2⟩
/-- A row that grows turns no chunk. -/
theorem Chs.grown {w w' : World} {F : Nat → Prop} {mx : Nat} {qs : List Q} (h : Chs w F mx qs) {row : Option Nat} (hg : w.grownBy w' row) {t : TypeId} (ht : ∀ k, row = some k → ∃ a, w.heap[k]? = some (.cells a t (0, 0))) (h1 : t ≠ 90) (h2 : t ≠ 5) : Chs w' F mx qs :=
  ⟨fun q hq => by
    obtain ⟨f1, f2, p, h3⟩ := h.1 q hq
    obtain ⟨a1, t1⟩ := h3.tc
    obtain ⟨a2, t2⟩ := h3.tg
    refine ⟨f1, f2, p, h3.keep (hg.block _ h3.lt.1 fun e => ?_) (hg.block _ h3.lt.2 fun e => ?_)⟩
    · obtain ⟨a, ha⟩ := ht _ e.symm
      exact ty_ne ha t1 h1 rfl
    · obtain ⟨a, ha⟩ := ht _ e.symm
      exact ty_ne ha t2 h2 rfl, h.2⟩
/-- The whole buffer: its text and its place. -/
def Bu (w : World) (F : Nat → Prop) (b mx : Nat) (s : Bs) (p : Nat) : Prop :=
  ∃ V qs U, Bx w F b mx V (qs.map Q.c) U (ends (txs qs)) p ∧ Chs w F mx qs ∧ (∀ k, F k → k < w.heap.size) ∧ (txs qs).flatten = s ∧ Snd mx (txs qs) ∧ s.length ≤ 1048576 ∧ p ≤ s.length
theorem Bu.on {w w' : World} {F : Nat → Prop} {b mx : Nat} {s : Bs} {p : Nat} (h : Bu w F b mx s p) (hb : Below w.heap.size w w') : Bu w' F b mx s p := by
  obtain ⟨V, qs, U, h1, h2, h3, h4⟩ := h
  exact ⟨V, qs, U, h1.on hb, h2.on hb, fun k hk => Nat.lt_of_lt_of_le (h3 k hk) hb.size, h4⟩
/-- What only turns others leaves it. -/
theorem Bu.past {w w' : World} {F G G' : Nat → Prop} {b mx : Nat} {s : Bs} {p : Nat} (h : Bu w F b mx s p) (hg : Gs G G' w w') (ha : ∀ k, F k → ¬ G k) : Bu w' F b mx s p := by
  obtain ⟨V, qs, U, h1, h2, h3, h4⟩ := h
  have hk : ∀ k, k < w.heap.size → F k → w'.heap[k]? = w.heap[k]? := fun k hk hf => hg.block k hk (ha k hf)
  exact ⟨V, qs, U, h1.keep (hk _ h1.lt h1.fb) (fun g hg => hk _ (h1.row.lt g hg).2 (h1.fv g hg)) (fun g hg => hk _ (h1.en.lt g hg).2 (h1.fu g hg)), h2.keep hk, fun k hk => Nat.lt_of_lt_of_le (h3 k hk) hg.size, h4⟩
end Go.Proofs.YtdpjcbljeklhmaaDoor
