/-
  Bytes put into a block: store.
-/
import Derived.Test.YtfkhfjefddgkoaaDoorZSH
import Derived.Laws.CopyOwn
import Derived.Lib.SmallJoins
namespace Go.Proofs.YtfkhfjefddgkoaaDoor
open Go.RowKit

/-- Beside these blocks all is as it was. -/
structure Beside (w w' : World) (p : Nat → Prop) : Prop where
  os : w'.os = w.os
  tape : w'.tape = w.tape
  output : w'.output = w.output
  size : w.heap.size ≤ w'.heap.size
  block : ∀ k, k < w.heap.size → ¬ p k → w'.heap[k]? = w.heap[k]?
section
variable {w w' w'' : World} {p q : Nat → Prop}
theorem Beside.refl (w : World) (p : Nat → Prop) : Beside w w p := ⟨rfl, rfl, rfl, Nat.le_refl _, fun _ _ _ => rfl⟩
theorem Beside.trans (h : Beside w w' p) (h' : Beside w' w'' p) : Beside w w'' p :=
  ⟨h'.os.trans h.os, h'.tape.trans h.tape, h'.output.trans h.output, Nat.le_trans h.size h'.size, fun k hk hp => (h'.block k (Nat.lt_of_lt_of_le hk h.size) hp).trans (h.block k hk hp)⟩
theorem Beside.then (h : Beside w w' p) (h' : Beside w' w'' q) (hw : ∀ k, k < w.heap.size → q k → p k) : Beside w w'' p :=
  ⟨h'.os.trans h.os, h'.tape.trans h.tape, h'.output.trans h.output, Nat.le_trans h.size h'.size, fun k hk hp => (h'.block k (Nat.lt_of_lt_of_le hk h.size) fun e => hp (hw k hk e)).trans (h.block k hk hp)⟩
theorem Beside.weak (h : Beside w w' p) (hw : ∀ k, k < w.heap.size → p k → q k) : Beside w w' q := ⟨h.os, h.tape, h.output, h.size, fun k hk hq => h.block k hk fun hp => hq (hw k hk hp)⟩
theorem Beside.grown {r : Option Nat} (h : w.grownBy w' r) (hr : ∀ k, r = some k → p k) : Beside w w' p := ⟨h.os, h.tape, h.output, h.size, fun k hk hp => h.block k hk fun e => hp (hr k e.symm)⟩
theorem Beside.set (h : Beside w w' p) (a : Addr) (v : Value) (hp : p a.block) : Beside w (w'.setCell a v) p :=
  ⟨h.os, h.tape, h.output, by simpa using h.size, fun k hk hn => (heap_setCell_other w' a k v (fun e => hn (e ▸ hp))).trans (h.block k hk hn)⟩
theorem Beside.row (h : Beside w w' p) (g : Nat) (cs : Array Value) (hp : p g) : Beside w (w'.setRow g cs) p :=
  ⟨h.os, h.tape, h.output, by simpa using h.size, fun k hk hn => (setRow_other w' g k cs (fun e => hn (e ▸ hp))).trans (h.block k hk hn)⟩
theorem Beside.below (h : Beside w w' p) {B : Nat} (hp : ∀ k, p k → B ≤ k) (hB : B ≤ w.heap.size) : Below B w w' := ⟨h.os, h.tape, h.output, h.size, fun k hk => h.block k (by omega) fun hk' => by have := hp k hk'; omega⟩
theorem Bx.beside {g : Nat} {cs : Array Value} {t : TypeId} (h : Bx w g cs t) (hb : Beside w w' p) (hn : ¬ p g) : Bx w' g cs t := (hb.block g h.lt hn).trans h
theorem own_beside {B : Nat} {e : TypeId} {z : Nat} {v : Value} {n : Nat} {xs : List Value} (h : w.ownsRow B e z v n xs) (hb : Beside w w' p) (hn : ∀ k, v.ownBlock = some k → ¬ p k) : w'.ownsRow B e z v n xs := by
  refine ⟨h.1, ?_⟩
  rcases h.2 with h0 | ⟨g, cap, cur, hv, hB, hg, h3⟩
  · exact .inl h0
  · exact .inr ⟨g, cap, cur, hv, hB, Bx.beside (t := e) hg hb (hn g (by rw [hv]; rfl)), h3⟩
theorem Src.beside {P : Nat → Prop} {A : Option Addr} {n c : Nat} {xs : List Value} (h : Src w P A n c xs) (hb : Beside w w' p) (hn : ∀ k, P k → ¬ p k) : Src w' P A n c xs := h.keep fun k hk hlt => hb.block k hlt (hn k hk)
end

theorem wpList_zeros {w : World} {ops : Array Oper} {rest : List Oper} {o : Oper} {a : Act} {Q : Exit → Act → World → Prop} (hgd : o.guard = none) (s x : Operand)
    (ho : o.op = .call { callee := .builtin .append, args := #[s, x], argTypes := #[55, 3] })
    (B : Nat) (A : Option Addr) (n c : Nat) (xs : Str) (k N : Nat) (hN : n + k = N) (hs : a.eval s = .slice A n c) (hx : a.eval x = .int .i64 (k : Nat)) (hown : w.ownsRow B 5 1 (.slice A n c) n (cells xs)) (hk : 0 < k) (hn : N ≤ 1048576) (hB : B ≤ w.heap.size)
    (h : ∀ A' c' w', w'.ownsRow B 5 1 (.slice A' N c') N (cells (xs ++ zeros k)) → w.grownBy w' (Value.slice A n c).ownBlock → (row A' = row A ∨ ∃ q, w.heap.size ≤ q ∧ row A' = some q) → wpList Tryd.prog ops Q rest (a.put o.dst (.slice A' N c')) w') : wpList Tryd.prog ops Q (o :: rest) a w := by
  subst hN
  obtain ⟨A', c', w', hrun, h1, h2, h3⟩ := append_zeros B A n c xs k o.type hown hk hn hB
  refine wpList_plain hgd fun K hK => ?_
  unfold Oper.wp
  simp [execOp, ho, resolve, invoke, builtin, hs, hx, hrun, Result.andThen]
  exact hK _ _ (h A' c' w' h1 h2 h3)

/-- What is there, with m over it from f on. -/
def writeM (l : Str) (f : Nat) (m : Str) : Str := (l ++ zeros (f + m.length - l.length)).take f ++ m ++ l.drop (f + m.length)
theorem writeM_len (l : Str) (f : Nat) (m : Str) : (writeM l f m).length = Nat.max l.length (f + m.length) := by
  simp only [writeM, List.length_append, List.length_take, List.length_drop, zeros_len]
  simp only [Nat.max_def]
  split <;> omega
theorem writeM_pad (l : Str) (f : Nat) (m : Str) : splice (l ++ zeros (f + m.length - l.length)) f m = writeM l f m := by
  unfold splice writeM
  rw [List.append_assoc]
  congr 2
  rw [List.drop_append]
  have : (zeros (f + m.length - l.length)).drop (f + m.length - l.length) = [] := List.drop_of_length_le (by rw [zeros_len]; omega)
  rw [this, List.append_nil]
theorem splice_cells (l : Str) (f : Nat) (m : Str) : splice (cells l) f (cells m) = cells (splice l f m) := by
  unfold splice
  rw [cells_take, cells_len, cells_drop, cells_app, cells_app]

/-- A copy of bytes into a row of the call's own. -/
theorem wpList_into {w : World} {ops : Array Oper} {rest : List Oper} {o : Oper} {a : Act} {Q : Exit → Act → World → Prop} (hgd : o.guard = none) (d s : Operand)
    (ho : o.op = .call { callee := .builtin .copy, args := #[d, s], argTypes := #[55, 55] })
    (B : Nat) (A : Option Addr) (n c : Nat) (xs : Str) (f : Nat) (P : Nat → Prop) (SA : Option Addr) (m sc : Nat) (ms : Str) (hown : w.ownsRow B 5 1 (.slice A n c) n (cells xs))
    (dl : Nat) (hdl : n - f = dl) (hd : a.eval d = .slice (dropA A c f) dl (c - f)) (hs : a.eval s = .slice SA m sc) (hsrc : Src w P SA m sc (cells ms)) (hm : 0 < m) (hf : f + m ≤ n)
    (h : ∀ w', w'.ownsRow B 5 1 (.slice A n c) n (cells (splice xs f ms)) → Beside w w' (fun k => some k = row A) → wpList Tryd.prog ops Q rest (a.put o.dst (goInt m)) w') : wpList Tryd.prog ops Q (o :: rest) a w := by
  subst hdl
  rcases hown.2 with ⟨hv, h0⟩ | ⟨g, cap, cur, hv, hbg, hg, hnc, hcm, hcs, htake⟩
  · omega
  · injection hv with h1 h2 h3
    subst h1 h3
    have hml : ms.length = m := by have := hsrc.len; rwa [cells_len] at this
    obtain ⟨ad, rfl⟩ : ∃ ad, SA = some ad := by
      cases SA with
      | none => have := (hsrc.nil rfl).1; omega
      | some ad => exact ⟨ad, rfl⟩
    have hda : dropA (some (⟨g, 0, none⟩ : Addr)) c f = some ⟨g, f, none⟩ := by
      unfold dropA
      rw [if_neg (by omega), Option.map_some, plainAdd, Nat.zero_add]
    rw [hda] at hd
    rw [Nat.mul_one] at htake hcs
    have hmin : (cells ms).length = Nat.min m (n - f) := by rw [cells_len, hml]; exact (Nat.min_eq_left (by omega)).symm
    refine wpList_copy_own hgd d s 55 55 ho 5 Tryd.underlying55 Tryd.one_byte g f (n - f) (c - f) ad m sc hd hs cur 5 hg (cells ms) hmin (hsrc.at_ ad rfl) (by rw [cells_len]; omega) (cells_one ms) ?_
    rw [cells_len, hml]
    have hxl : xs.length = n := by have := hown.1; rw [cells_len] at this; omega
    refine h _ ⟨by rw [cells_len]; unfold splice; simp; omega, .inr ⟨g, c, _, rfl, hbg, setRow_heap w g cur _ 5 _ hg, hnc, hcm, ?_, ?_⟩⟩ ((Beside.refl w _).row g _ rfl)
    · simp only [List.size_toArray, List.length_append, List.length_take, List.length_drop, Array.length_toList, cells_len]
      omega
    · rw [← splice_cells, ← htake, Nat.mul_one]
      unfold splice
      simp only [cells_len, hml, List.take_append, List.take_take, List.length_take, Array.length_toList, List.drop_take]
      rw [Nat.min_eq_left (show f ≤ n by omega), List.take_of_length_le (show (cells ms).length ≤ _ by rw [cells_len]; omega)]
      congr 2
      · omega
      · congr 1
        omega
theorem set_same {w : World} {b i : Nat} {cur : Array Value} {t : TypeId} {v : Value} (hb : Bx w b cur t) (h : cur[i]? = some v) : Bx w b (cur.setIfInBounds i v) t := by
  have : cur.setIfInBounds i v = cur := by
    apply Array.ext
    · simp
    · intro j h1 h2
      rw [Array.getElem_setIfInBounds (by simpa using h2)]
      split
      · rename_i e
        subst e
        rw [Array.getElem?_eq_getElem (by simpa using h2)] at h
        exact (Option.some.inj h).symm
      · rfl
  rw [this]
  exact hb
/-- Behind a store into the block at offset o of the row b: the bytes are what they were, with the given ones over them. -/
def Stored (w : World) (B b o : Nat) (cur : Array Value) (t : TypeId) (A : Option Addr) (bs : Str) (f : Nat) (ms : Str) (e : Ending) (w' : World) : Prop :=
  e = .returned (.tuple #[]) ∧ ∃ A' c', Bx w' b (cur.setIfInBounds (o + 3) (.slice A' (writeM bs f ms).length c')) t ∧ w'.ownsRow B 5 1 (.slice A' (writeM bs f ms).length c') (writeM bs f ms).length (cells (writeM bs f ms)) ∧
    Beside w w' (fun k => k = b ∨ some k = row A) ∧ (row A' = row A ∨ ∃ q, w.heap.size ≤ q ∧ row A' = some q)
theorem grow_step {w w1 : World} {B b o : Nat} {cur : Array Value} {t : TypeId} {A A1 : Option Addr} {n N c c1 : Nat} {ys : Str} {P : Nat → Prop} {SA : Option Addr} {m sc : Nat} {ms : Str} (hb : Bx w b cur t) (hne : row A ≠ some b)
    (h1 : w1.ownsRow B 5 1 (.slice A1 N c1) N (cells ys)) (h2 : w.grownBy w1 (Value.slice A n c).ownBlock) (h3 : row A1 = row A ∨ ∃ q, w.heap.size ≤ q ∧ row A1 = some q) (hs : Src w P SA m sc (cells ms)) (hP : ∀ k, P k → k ≠ b ∧ some k ≠ row A ∧ k < w.heap.size) :
    w1.cell? ⟨b, o + 3, none⟩ = cur[o + 3]? ∧ w1.frozen? ⟨b, o + 3, none⟩ = false ∧ Bx (w1.setCell ⟨b, o + 3, none⟩ (.slice A1 N c1)) b (cur.setIfInBounds (o + 3) (.slice A1 N c1)) t ∧ (w1.setCell ⟨b, o + 3, none⟩ (.slice A1 N c1)).ownsRow B 5 1 (.slice A1 N c1) N (cells ys) ∧
      Src (w1.setCell ⟨b, o + 3, none⟩ (.slice A1 N c1)) P SA m sc (cells ms) ∧ Beside w (w1.setCell ⟨b, o + 3, none⟩ (.slice A1 N c1)) (fun k => k = b ∨ some k = row A) := by
  rw [row_own] at h2
  have hb1 : Bx w1 b cur t := hb.beside (Beside.grown (p := fun k => some k = row A) h2 fun k hk => hk.symm) fun e => hne e.symm
  have hne1 : row A1 ≠ some b := by
    rcases h3 with h3 | ⟨q, hq, h3⟩
    · rw [h3]; exact hne
    · rw [h3]; intro e; cases e; have := hb.lt; omega
  have hbs : Beside w (w1.setCell ⟨b, o + 3, none⟩ (.slice A1 N c1)) (fun k => k = b ∨ some k = row A) := (Beside.grown (p := fun k => k = b ∨ some k = row A) h2 fun k hk => .inr hk.symm).set _ _ (.inl rfl)
  refine ⟨hb1.c _, hb1.f _, (by show (World.setCell _ _ _).heap[b]? = _; rw [setCell_eq_setRow w1 b (o + 3) cur t _ _ hb1]; exact setRow_heap w1 b _ _ t _ hb1), own_beside h1 ((Beside.refl w1 (fun k => k = b)).set ⟨b, o + 3, none⟩ (.slice A1 N c1) rfl) ?_, hs.beside hbs ?_, hbs⟩
  · intro k hk e
    rw [row_own] at hk
    subst e
    exact hne1 hk
  · intro k hk e
    obtain ⟨p1, p2, _⟩ := hP k hk
    rcases e with e | e
    · exact p1 e
    · exact p2 e
theorem stored_end {w w1 w2 : World} {B b o : Nat} {cur : Array Value} {t : TypeId} {A A1 : Option Addr} {c1 N f : Nat} {bs ms ys : Str} (hlt : b < w.heap.size) (hne : row A ≠ some b) (h3 : row A1 = row A ∨ ∃ q, w.heap.size ≤ q ∧ row A1 = some q)
    (g2 : Bx w1 b (cur.setIfInBounds (o + 3) (.slice A1 N c1)) t) (g5 : Beside w w1 (fun k => k = b ∨ some k = row A)) (o1 : w2.ownsRow B 5 1 (.slice A1 N c1) N (cells ys)) (o2 : Beside w1 w2 (fun k => some k = row A1)) (hy : ys = writeM bs f ms) (hN : N = (writeM bs f ms).length) :
    Stored w B b o cur t A bs f ms (.returned (.tuple #[])) w2 := by
  subst hy hN
  refine ⟨rfl, A1, c1, g2.beside o2 ?_, o1, g5.then o2 ?_, h3⟩
  · intro e
    rcases h3 with h3 | ⟨q, hq, h3⟩
    · exact hne (h3.symm.trans e.symm)
    · rw [h3] at e; cases e; omega
  · intro k hk e
    rcases h3 with h3 | ⟨q, hq, h3⟩
    · exact .inr (e.trans h3)
    · rw [h3] at e; cases e; omega
set_option maxRecDepth 100000 in
set_option maxHeartbeats 2000000 in
theorem store_any (B b o : Nat) (cur : Array Value) (t : TypeId) (a0 a : Int) (A : Option Addr) (c : Nat) (bs : Str) (P : Nat → Prop) (SA : Option Addr) (m sc : Nat) (ms : Str) (ha : 0 ≤ a0 ∧ a0 ≤ a ∧ a ≤ 4294967296) (hm : 0 < m) (hf : (a - a0).toNat + m ≤ 1048576) (hbl : bs.length ≤ 1048576) (w : World)
    (hb : Bx w b cur t) (hB : B ≤ b) (h0 : cur[o]? = some (.int .i64 a0)) (h3' : cur[o + 3]? = some (.slice A bs.length c)) (hown : w.ownsRow B 5 1 (.slice A bs.length c) bs.length (cells bs)) (hne : row A ≠ some b)
    (hs : Src w P SA m sc (cells ms)) (hP : ∀ k, P k → k ≠ b ∧ some k ≠ row A ∧ k < w.heap.size) :
    Calls Tryd.prog 76 #[.pointer (some ⟨b, o, none⟩), .int .i64 a, .slice SA m sc] w (Stored w B b o cur t A bs (a - a0).toNat ms) := by
  obtain ⟨f, rfl⟩ : ∃ f : Nat, a = a0 + f := ⟨(a - a0).toNat, by omega⟩
  have e1 : wrap64 (a0 + (f : Int) - a0) = (f : Int) := by rw [IntWalk.wrap64_in _ (by omega)]; omega
  have eN : (a0 + (f : Int) - a0).toNat = f := by omega
  rw [eN] at hf ⊢
  have hml : ms.length = m := by have := hs.len; rwa [cells_len] at this
  have hbB : B ≤ w.heap.size := by have := hb.lt; omega
  have hr : ∀ k, (Value.slice A bs.length c).ownBlock = some k ↔ row A = some k := by
    intro k
    cases A <;> simp [Value.ownBlock, row]
  by_cases hlt : bs.length < f + m
  · have e2 : wrap64 ((f : Int) + (m : Int) - (bs.length : Int)) = ((f + m - bs.length : Nat) : Int) := by rw [IntWalk.wrap64_in _ (by omega)]; omega
    have k0 : w.cell? ⟨b, o, none⟩ = some (.int .i64 a0) := (hb.c o).trans h0
    have k3 : w.cell? ⟨b, o + 3, none⟩ = some (.slice A bs.length c) := (hb.c (o + 3)).trans h3'
    have e3 : a0 + (f : Int) - a0 = (f : Int) := by omega
    have e4 : (f : Int) + (m : Int) - (bs.length : Int) = ((f + m - bs.length : Nat) : Int) := by omega
    have HK := Lib.hid (show 0 < f + m - bs.length by omega)
    have HO := Lib.hid hown
    have hpos : 0 < f + m - bs.length := HK.out
    have HW := Lib.hid (show splice (bs ++ zeros (f + m - bs.length)) f ms = writeM bs f ms by rw [← hml]; exact writeM_pad bs f ms)
    have HL := Lib.hid (show f + m = (writeM bs f ms).length by rw [writeM_len, hml]; exact (Nat.max_eq_right (by omega)).symm)
    have HP := Lib.hid hP
    have HNE := Lib.hid hne
    have HSR := Lib.hid hs
    have HBX := Lib.hid hb
    have HBL := Lib.hid hb.lt
    clear hown hP hne hs hb eN hml hr
    generalize hX : Stored w B b o cur t A bs f ms = X
    have HX := Lib.hid hX
    clear hX
    go_enter Tryd.func76, Tryd.ntmps76
    go_wp2_with (first
      | (refine wpList_zeros rfl (.tmp 31) (.tmp 32) rfl B A bs.length c bs (f + m - bs.length) (f + m) (by omega) rfl rfl HO.out HK.out hf hbB ?_; intro A1 c1 w1 h1 h2 h3; obtain ⟨g1, gf, g2, g3, g4, g5⟩ := grow_step (o := o) HBX.out HNE.out h1 h2 h3 HSR.out HP.out; have k3' := g1.trans h3'; have G2 := Lib.hid g2; have G3 := Lib.hid g3; have G4 := Lib.hid g4; have G5 := Lib.hid g5; have HR3 := Lib.hid h3; have hsl := fun w' => slice_low A1 (f + m) c1 f (by omega) w'; clear g1 g2 g3 g4 g5 h1 h2 h3 HO HSR HBX k0 k3)
      | (refine wpList_into rfl (.tmp 41) (.tmp 42) rfl B A1 (f + m) c1 (bs ++ zeros (f + m - bs.length)) f P SA m sc ms G3.out m (by omega) rfl rfl G4.out hm (Nat.le_refl _) ?_; intro w2 o1 o2; have O1 := Lib.hid o1; have O2 := Lib.hid o2; clear o1 o2 hsl)
      | fail)
    go_end0
    rw [← HX.out]
    exact stored_end HBL.out HNE.out HR3.out G2.out G5.out O1.out O2.out HW.out HL.out
  · have e2 : wrap64 ((f : Int) + (m : Int) - (bs.length : Int)) = (f : Int) + (m : Int) - (bs.length : Int) := IntWalk.wrap64_in _ (by omega)
    have k0 : w.cell? ⟨b, o, none⟩ = some (.int .i64 a0) := (hb.c o).trans h0
    have k3 : w.cell? ⟨b, o + 3, none⟩ = some (.slice A bs.length c) := (hb.c (o + 3)).trans h3'
    have e3 : a0 + (f : Int) - a0 = (f : Int) := by omega
    have hng : ¬ (0 < (f : Int) + (m : Int) - (bs.length : Int)) := by omega
    have HO := Lib.hid hown
    have HW := Lib.hid (show splice bs f ms = writeM bs f ms by
      have := writeM_pad bs f ms
      rwa [hml, show f + m - bs.length = 0 by omega, show zeros 0 = [] from rfl, List.append_nil] at this)
    have HL := Lib.hid (show bs.length = (writeM bs f ms).length by rw [writeM_len, hml]; exact (Nat.max_eq_left (by omega)).symm)
    have HNE := Lib.hid hne
    have HSR := Lib.hid hs
    have HBX := Lib.hid (show Bx w b (cur.setIfInBounds (o + 3) (.slice A bs.length c)) t from set_same hb h3')
    have HBL := Lib.hid hb.lt
    have hsl := fun w' => slice_low A bs.length c f (by omega) w'
    clear hown hP hne hs hb eN hml hr
    generalize hX : Stored w B b o cur t A bs f ms = X
    have HX := Lib.hid hX
    clear hX
    go_enter Tryd.func76, Tryd.ntmps76
    go_wp2_with (first
      | (refine wpList_into rfl (.tmp 41) (.tmp 42) rfl B A bs.length c bs f P SA m sc ms HO.out _ rfl rfl rfl HSR.out hm (by omega) ?_; intro w2 o1 o2; have O1 := Lib.hid o1; have O2 := Lib.hid o2; clear o1 o2 hsl)
      | fail)
    go_end0
    rw [← HX.out]
    exact stored_end HBL.out HNE.out (.inl rfl) HBX.out (Beside.refl w _) O1.out O2.out HW.out HL.out
end Go.Proofs.YtfkhfjefddgkoaaDoor
