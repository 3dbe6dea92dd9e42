/-
  Bytes put into a space.
  Words: eight bytes, the lowest first.
-/
import Derived.Test.YtfkhfjefddgkoaaDoorZSJ
namespace Go.Proofs.YtfkhfjefddgkoaaDoor
open Go.RowKit

theorem rcells_cons (r : Raw) (rs : List Raw) : rcells (r :: rs) = rawC r ++ rcells rs := rfl
theorem rcells_set : ∀ (rs : List Raw) (k : Nat) (hk : k < rs.length) (r : Raw) (j : Nat) (v : Value), (rawC rs[k]).set j v = rawC r → j < 4 → (rcells rs).set (k * 4 + j) v = rcells (rs.set k r) := by
  intro rs
  induction rs with
  | nil => intro k hk; simp at hk
  | cons r0 rs ih =>
    intro k hk r j v h hj
    have h4 : (rawC r0).length = 4 := rfl
    rw [rcells_cons]
    cases k with
    | zero =>
      rw [List.getElem_cons_zero] at h
      rw [Nat.zero_mul, Nat.zero_add, List.set_append_left _ _ (by omega), h, List.set_cons_zero, rcells_cons]
    | succ k =>
      rw [List.getElem_cons_succ] at h
      rw [List.set_append_right _ _ (by omega), List.set_cons_succ, rcells_cons, ← ih k (by simpa using hk) r j v h hj]
      congr 2
      omega
/-- A block's row with one cell anew. -/
theorem row_set {w' : World} {B b : Nat} {c : Nat} {rs : List Raw} {cur : Array Value} {k j : Nat} {v : Value} {r : Raw} (hB : B ≤ b) (hnc : rs.length ≤ c) (hcm : c ≤ maxLen) (hcs : cur.size = c * 4) (ht : cur.toList.take (rs.length * 4) = rcells rs) (hk : k < rs.length) (hr : (rawC rs[k]).set j v = rawC r) (hj : j < 4)
    (hx : Bx w' b (cur.setIfInBounds (k * 4 + j) v) 122) : w'.ownsRow B 122 4 (.slice (some ⟨b, 0, none⟩) (rs.set k r).length c) (rs.set k r).length (rcells (rs.set k r)) := by
  refine ⟨rcells_len _, .inr ⟨b, c, _, rfl, hB, hx, by simpa using hnc, hcm, by simpa using hcs, ?_⟩⟩
  rw [← rcells_set rs k hk r j v hr hj, ← ht, Array.toList_setIfInBounds, List.length_set, List.take_set]
theorem pair_set {rs : List Raw} {k : Nat} {r : Raw} (h : rs.Pairwise fun r r' => ∀ q, row r.A = some q → row r'.A ≠ some q) (hr : ∀ j (hj : j < rs.length), j ≠ k → ∀ q, row r.A = some q → row rs[j].A ≠ some q) :
    (rs.set k r).Pairwise fun r r' => ∀ q, row r.A = some q → row r'.A ≠ some q := by
  rw [List.pairwise_iff_getElem] at h ⊢
  intro i j hi hj hij q
  rw [List.length_set] at hi hj
  have h0 := h i j hi hj hij q
  rw [List.getElem_set, List.getElem_set]
  by_cases e1 : k = i
  · subst e1
    rw [if_pos rfl, if_neg (by omega)]
    exact fun e => hr j hj (by omega) q e
  · rw [if_neg e1]
    by_cases e2 : k = j
    · subst e2
      rw [if_pos rfl]
      exact fun e e' => hr i hi (by omega) q e' e
    · rw [if_neg e2]
      exact h0
theorem ord_same {rs rs' : List Raw} (h : Ord rs) (hl : rs'.length = rs.length) (he : ∀ j (hj : j < rs.length), (rs'[j]'(by omega)).b.at_ = rs[j].b.at_ ∧ (rs'[j]'(by omega)).b.size = rs[j].b.size) : Ord rs' := by
  refine ⟨fun r hr => ?_, fun j k hj hk hjk => ?_⟩
  · obtain ⟨j, hj, rfl⟩ := List.getElem_of_mem hr
    obtain ⟨e1, e2⟩ := he j (by omega)
    rw [e1, e2]
    exact h.fit _ (List.getElem_mem (by omega))
  · obtain ⟨e1, e2⟩ := he j (by omega)
    obtain ⟨e3, _⟩ := he k (by omega)
    rw [e1, e2, e3]
    exact h.next j k (by omega) (by omega) hjk
/-- The space, with one block's bytes anew. -/
theorem Sp.set {w w' : World} {B g b : Nat} {c : Nat} {rs : List Raw} {cur : Array Value} {k : Nat} (h : Sp w B g (some ⟨b, 0, none⟩) c rs) (hnc : rs.length ≤ c) (hcm : c ≤ maxLen) (hcs : cur.size = c * 4) (ht : cur.toList.take (rs.length * 4) = rcells rs) (hk : k < rs.length) {A' : Option Addr} {c' : Nat} {bs : Str}
    (hx : Bx w' b (cur.setIfInBounds (k * 4 + 3) (.slice A' bs.length c')) 122) (ho : w'.ownsRow B 5 1 (.slice A' bs.length c') bs.length (cells bs)) (hlen : (bs.length : Int) ≤ rs[k].b.size) (hb : Beside w w' (fun q => q = b ∨ some q = row rs[k].A)) (hA : row A' = row rs[k].A ∨ ∃ q, w.heap.size ≤ q ∧ row A' = some q) :
    Sp w' B g (some ⟨b, 0, none⟩) c (rs.set k ⟨⟨rs[k].b.at_, rs[k].b.size, rs[k].b.perm, bs⟩, A', c'⟩) := by
  have hmem := List.getElem_mem hk
  have hgb : g ≠ b := fun e => h.ne (by rw [e]; rfl)
  have hbB : B ≤ b := (h.lt (k := b) (.inr (.inl rfl))).1
  have hkA : ∀ q, row rs[k].A = some q → q ≠ g ∧ some q ≠ row (some (⟨b, 0, none⟩ : Addr)) := h.apart _ hmem
  have hall : ∀ j (hj : j < rs.length), j ≠ k → ∀ q, row rs[j].A = some q → some q ≠ row rs[k].A := by
    intro j hj hne q hq e
    have hp := List.pairwise_iff_getElem.1 h.pair
    rcases Nat.lt_or_gt_of_ne hne with hl | hl
    · exact hp j k hj hk hl q hq e.symm
    · exact hp k j hk hj hl q e.symm hq
  have hold : ∀ j (hj : j < rs.length), j ≠ k → w'.ownsRow B 5 1 (.slice rs[j].A rs[j].b.bytes.length rs[j].c) rs[j].b.bytes.length (cells rs[j].b.bytes) := by
    intro j hj hne
    refine own_beside (h.bytes _ (List.getElem_mem hj)) hb fun q hq e => ?_
    rw [row_own] at hq
    rcases e with rfl | e
    · exact (h.apart _ (List.getElem_mem hj) _ hq).2 rfl
    · exact hall j hj hne q hq e
  have hA2 : ∀ q, row A' = some q → q ≠ g ∧ some q ≠ row (some (⟨b, 0, none⟩ : Addr)) := by
    intro q hq
    rcases hA with e | ⟨q', hq', e⟩
    · exact hkA q (e ▸ hq)
    · have hqq : q = q' := by rw [e] at hq; exact (Option.some.inj hq).symm
      subst hqq
      have h1 := h.box.lt
      have h2 := (h.lt (k := b) (.inr (.inl rfl))).2
      exact ⟨by omega, fun e => by have e2 : q = b := Option.some.inj e; omega⟩
  have hat : ∀ (r : Raw), r ∈ rs.set k ⟨⟨rs[k].b.at_, rs[k].b.size, rs[k].b.perm, bs⟩, A', c'⟩ → r = ⟨⟨rs[k].b.at_, rs[k].b.size, rs[k].b.perm, bs⟩, A', c'⟩ ∨ ∃ j, ∃ hj : j < rs.length, j ≠ k ∧ r = rs[j] := by
    intro r hr
    obtain ⟨j, hj, rfl⟩ := List.getElem_of_mem hr
    rw [List.length_set] at hj
    rw [List.getElem_set]
    by_cases e : k = j
    · exact .inl (by rw [if_pos e])
    · exact .inr ⟨j, hj, fun e' => e e'.symm, by rw [if_neg e]⟩
  refine ⟨h.hg, ?_, row_set hbB hnc hcm hcs ht hk rfl (by omega) hx, ?_, ?_, h.ne, ?_, pair_set h.pair ?_, ?_⟩
  · rw [List.length_set]
    refine h.box.beside hb fun e => ?_
    rcases e with e | e
    · exact hgb e
    · exact (hkA g e.symm).1 rfl
  · intro r hr
    rcases hat r hr with rfl | ⟨j, hj, hne, rfl⟩
    · exact ho
    · exact hold j hj hne
  · intro r hr
    rcases hat r hr with rfl | ⟨j, hj, hne, rfl⟩
    · exact ⟨hlen, (h.short _ hmem).2⟩
    · exact h.short _ (List.getElem_mem hj)
  · intro r hr
    rcases hat r hr with rfl | ⟨j, hj, hne, rfl⟩
    · exact hA2
    · exact h.apart _ (List.getElem_mem hj)
  · intro j hj hne q hq e
    rcases hA with e2 | ⟨q', hq', e2⟩
    · exact hall j hj hne q e (e2 ▸ hq.symm)
    · have hqq : q = q' := by rw [e2] at hq; exact (Option.some.inj hq).symm
      subst hqq
      have := (h.lt (k := q) (.inr (.inr ⟨_, List.getElem_mem hj, e.symm⟩))).2
      omega
  · exact ord_same h.ord (by rw [List.length_set]) fun j hj => by
      rw [List.getElem_set]
      split
      · rename_i e; subst e; exact ⟨rfl, rfl⟩
      · exact ⟨rfl, rfl⟩
/-- The space, the bytes of the one block that holds the range with the given ones over them. -/
def Wrote (w : World) (B g : Nat) (A : Option Addr) (c : Nat) (rs : List Raw) (a : Int) (ms : Str) (w' : World) : Prop :=
  ∃ (k : Nat) (hk : k < rs.length) (A' : Option Addr) (c' : Nat), rs[k].b.at_ ≤ a ∧ a + ms.length ≤ rs[k].b.at_ + rs[k].b.size ∧
    Sp w' B g A c (rs.set k ⟨⟨rs[k].b.at_, rs[k].b.size, rs[k].b.perm, writeM rs[k].b.bytes (a - rs[k].b.at_).toNat ms⟩, A', c'⟩) ∧ Beside w w' (Foot g A rs) ∧ (row A' = row rs[k].A ∨ ∃ q, w.heap.size ≤ q ∧ row A' = some q)
/-- Behind a put: the one block's bytes with the given ones over them, or an error's number. -/
def Putted (w : World) (B g : Nat) (A : Option Addr) (c : Nat) (rs : List Raw) (a : Int) (ms : Str) (need : Int) (e : Ending) (w' : World) : Prop :=
  (goes (blks rs) a ms.length need ≠ 0 ∧ e = .returned (.int .i64 (goes (blks rs) a ms.length need)) ∧ Below w.heap.size w w') ∨
  (goes (blks rs) a ms.length need = 0 ∧ e = .returned (.int .i64 0) ∧ Wrote w B g A c rs a ms w')
theorem Putted.no {w w' : World} {B g : Nat} {A : Option Addr} {c : Nat} {rs : List Raw} {a : Int} {ms : Str} {need k : Int} (hb : Below w.heap.size w w') (h : goes (blks rs) a ms.length need = k) (hk : k ≠ 0) : Putted w B g A c rs a ms need (.returned (.int .i64 k)) w' := by
  subst h
  exact .inl ⟨hk, rfl, hb⟩
/-- The row that a space's blocks lie in. -/
theorem Sp.cur {w : World} {B g b o : Nat} {c : Nat} {rs : List Raw} (h : Sp w B g (some ⟨b, o, none⟩) c rs) : o = 0 ∧ B ≤ b ∧ rs.length ≤ c ∧ c ≤ maxLen ∧ ∃ cur : Array Value, Bx w b cur 122 ∧ cur.size = c * 4 ∧ cur.toList.take (rs.length * 4) = rcells rs := by
  rcases h.own.2 with ⟨hv, _⟩ | ⟨b', cap, cur, hv, hbg, hx, hnc, hcm, hcs, ht⟩
  · cases hv
  · injection hv with h1 _ h3
    injection h1 with h1
    injection h1 with h1 h2
    subst h1 h2 h3
    exact ⟨rfl, hbg, hnc, hcm, cur, hx, hcs, ht⟩
theorem cur_at {cur : Array Value} {rs : List Raw} (ht : cur.toList.take (rs.length * 4) = rcells rs) {k j : Nat} (hk : k < rs.length) (hj : j < 4) : cur[k * 4 + j]? = (rawC rs[k])[j]? := by
  rw [← rcells_at rs k hk j hj, ← ht, List.getElem?_take_of_lt (by omega), Array.getElem?_toList]
/-- A store through the block that was reached. -/
theorem store_in {w : World} {B g b o k : Nat} {c : Nat} {rs : List Raw} {a : Int} {P : Nat → Prop} {SA : Option Addr} {m sc : Nat} {ms : Str} (h : Sp w B g (some ⟨b, o, none⟩) c rs) (hk : k < rs.length) (h1 : rs[k].b.at_ ≤ a) (h2 : a + (m : Int) ≤ rs[k].b.at_ + rs[k].b.size) (hm : 0 < m)
    (hs : Src w P SA m sc (cells ms)) (hP : ∀ q, P q → ¬ Foot g (some ⟨b, o, none⟩) rs q ∧ q < w.heap.size) :
    Calls Tryd.prog 76 #[.pointer (some ⟨b, o + k * 4, none⟩), .int .i64 a, .slice SA m sc] w fun e w' => e = .returned (.tuple #[]) ∧ Wrote w B g (some ⟨b, o, none⟩) c rs a ms w' := by
  obtain ⟨rfl, hbB, hnc, hcm, cur, hx, hcs, ht⟩ := h.cur
  have hml : ms.length = m := by have := hs.len; rwa [cells_len] at this
  have hmem := List.getElem_mem hk
  have hsh := h.short _ hmem
  have hfit := h.ord.fit _ hmem
  have hne : row rs[k].A ≠ some b := fun e => (h.apart _ hmem b e).2 rfl
  have hS := store_any B b (k * 4) cur 122 rs[k].b.at_ a rs[k].A rs[k].c rs[k].b.bytes P SA m sc ms (by omega) hm (by omega) (by omega) w hx hbB (cur_at ht hk (j := 0) (by omega)) (cur_at ht hk (j := 3) (by omega)) (h.bytes _ hmem) hne hs
    (fun q hq => ⟨fun e => (hP q hq).1 (.inr (.inl (by rw [e]; rfl))), fun e => (hP q hq).1 (.inr (.inr ⟨_, hmem, e⟩)), (hP q hq).2⟩)
  rw [Nat.zero_add]
  refine hS.mono ?_
  rintro e w' ⟨rfl, A', c', g1, g2, g3, g4⟩
  refine ⟨rfl, k, hk, A', c', h1, by rw [hml]; exact h2, h.set hnc hcm hcs ht hk g1 g2 ?_ g3 g4, g3.weak ?_, g4⟩
  · rw [writeM_len, hml]
    simp only [Nat.max_def]
    split <;> omega
  · intro q _ hq
    rcases hq with rfl | hq
    · exact .inr (.inl rfl)
    · exact .inr (.inr ⟨_, hmem, hq⟩)
set_option maxRecDepth 100000 in
set_option maxHeartbeats 2000000 in
theorem put_any (B g : Nat) (A : Option Addr) (c : Nat) (rs : List Raw) (a need : Int) (P : Nat → Prop) (SA : Option Addr) (m sc : Nat) (ms : Str) (ha : I64 a) (w : World) (h : Sp w B g A c rs)
    (hs : Src w P SA m sc (cells ms)) (hP : ∀ q, P q → ¬ Foot g A rs q ∧ q < w.heap.size) :
    Calls Tryd.prog 53 #[.pointer (some ⟨g, 0, none⟩), .int .i64 a, .slice SA m sc, .int .i64 need] w (Putted w B g A c rs a ms need) := by
  have HS := Lib.hid h
  have HSR := Lib.hid hs
  have HP := Lib.hid hP
  have hc : w.cell? ⟨g, 0, none⟩ = some (.slice A rs.length c) := h.box.c 0
  have hml := Lib.hid (show ms.length = m by have := hs.len; rwa [cells_len] at this)
  clear h hs hP
  have HZ := Lib.hid (isSize_any (m : Int) w)
  generalize hL : Putted w B g A c rs a ms need = L
  have HL := Lib.hid hL
  clear hL
  by_cases hsz : (m : Int) < 1 ∨ 1048576 < (m : Int)
  · have HG := Lib.hid (show goes (blks rs) a ms.length need = 1 by unfold goes; rw [hml.out, if_pos hsz])
    have hsb : sizeB (m : Int) = false := by unfold sizeB; simp; omega
    rw [hsb] at HZ
    go_enter Tryd.func53, Tryd.ntmps53
    go_wp2_with fail
    refine HZ.out.mono ?_
    rintro e w1 ⟨rfl, rfl⟩
    clear HZ
    go_wp2_with fail
    rw [← HL.out]
    exact Putted.no (Below.refl _ _) HG.out (by decide)
  · have hsb : sizeB (m : Int) = true := by unfold sizeB; simp; omega
    rw [hsb] at HZ
    have hn2 : 1 ≤ (m : Int) ∧ (m : Int) ≤ 1048576 := by omega
    have HR := Lib.hid (reach_any A rs.length c g rs a (m : Int) need ha hn2 w hc HS.out.bls HS.out.ord (by have := ord_few HS.out.ord; omega))
    have HGO := Lib.hid (show goes (blks rs) a ms.length need = match holder (blks rs) a m with
      | none => 50
      | some b => if bits .and .i64 b.perm need = need then 0 else 52 from by unfold goes; rw [hml.out, if_neg hsz]; rfl)
    clear hsz
    go_enter Tryd.func53, Tryd.ntmps53
    go_wp2_with fail
    refine HZ.out.mono ?_
    rintro e w1 ⟨rfl, rfl⟩
    clear HZ
    go_wp2_with fail
    refine HR.out.mono ?_
    rintro e w1 ⟨hb, hor⟩
    have HB := Lib.hid hb
    clear HR hb
    rcases hor with ⟨k, hk, b, o, rfl, h1, h2, h3, rfl⟩ | ⟨k, hk, h1, h2, h3, rfl⟩ | ⟨h1, rfl⟩
    · have hh := holder_some HS.out.ord hn2.1 hk h1 h2
      have hg0 := HGO.out
      rw [hh] at hg0
      have hbe := Beside.of_below HB.out (fun _ => False)
      have HG := Lib.hid (show goes (blks rs) a ms.length need = 0 from hg0.trans (if_pos h3))
      have HSI := Lib.hid (store_in (HS.out.beside hbe fun _ _ h => h) hk h1 h2 (by omega) (HSR.out.beside hbe fun _ _ h => h) (fun q hq => ⟨(HP.out q hq).1, Nat.lt_of_lt_of_le (HP.out q hq).2 HB.out.size⟩))
      clear hbe hg0 hh h1 h2 h3
      go_wp2_with fail
      refine HSI.out.mono ?_
      rintro e w2 ⟨rfl, hp⟩
      have HPU := Lib.hid hp
      clear hp HSI
      go_wp2_with fail
      first | go_ret2 | skip
      rw [← HL.out]
      obtain ⟨k', hk', A', c', p1, p2, p3, p4, p5⟩ := HPU.out
      exact .inr ⟨HG.out, rfl, k', hk', A', c', p1, p2, p3, (Beside.of_below HB.out _).trans p4, p5.imp (fun h => h) fun ⟨q, hq, e⟩ => ⟨q, Nat.le_trans HB.out.size hq, e⟩⟩
    · have hh := holder_some HS.out.ord hn2.1 hk h1 h2
      have hg0 := HGO.out
      rw [hh] at hg0
      have HG := Lib.hid (show goes (blks rs) a ms.length need = 52 from hg0.trans (if_neg h3))
      clear hh hg0 h1 h2 h3
      go_wp2_with fail
      rw [← HL.out]
      exact Putted.no HB.out HG.out (by decide)
    · have hg0 := HGO.out
      rw [holder_none h1] at hg0
      have HG := Lib.hid hg0
      clear hg0 h1
      go_wp2_with fail
      rw [← HL.out]
      exact Putted.no HB.out HG.out (by decide)
end Go.Proofs.YtfkhfjefddgkoaaDoor

namespace Go.Proofs.YtfkhfjefddgkoaaDoor
open Go.RowKit

def valN : List UInt8 → Nat
  | [] => 0
  | b :: l => b.toNat + 256 * valN l
def val (l : List UInt8) : Int := wrap64 (valN l)

theorem valN_lt (l : List UInt8) : valN l < 256 ^ l.length := by
  induction l with
  | nil => simp [valN]
  | cons b l ih =>
    have := b.toNat_lt
    simp only [valN, List.length_cons, Nat.pow_succ]
    omega
theorem valN_snoc (l : List UInt8) (b : UInt8) : valN (l ++ [b]) = valN l + b.toNat * 256 ^ l.length := by
  induction l with
  | nil => simp [valN]
  | cons a l ih =>
    simp only [List.cons_append, valN, ih, List.length_cons, Nat.pow_succ]
    rw [Nat.mul_add, Nat.add_assoc]
    congr 1
    congr 1
    rw [Nat.mul_comm (256 ^ l.length) 256, ← Nat.mul_assoc, ← Nat.mul_assoc, Nat.mul_comm b.toNat 256]
theorem wrap_i64 (n : Int) : IntKind.i64.wrap n = wrap64 n := by
  unfold wrap64
  simp [IntKind.wrap, IntKind.bits, IntKind.signed]
  by_cases h : 9223372036854775808 ≤ n % 18446744073709551616
  · rw [if_pos h]; omega
  · rw [if_neg h]; omega
theorem ofInt_wrap (x : Int) : BitVec.ofInt 64 (wrap64 x) = BitVec.ofInt 64 x := by
  apply BitVec.eq_of_toInt_eq
  rw [BitVec.toInt_ofInt, BitVec.toInt_ofInt]
  unfold wrap64 Int.bmod
  simp
theorem or_byte (a c k : Nat) (hk : k ≤ 7) (ha : a < 256 ^ k) (hc : c < 256) : bits .or .i64 (wrap64 a) (wrap64 (wrap64 (c : Int) * 2 ^ (8 * k))) = wrap64 ((a + c * 256 ^ k : Nat) : Int) := by
  have hcw : wrap64 (c : Int) = c := by unfold wrap64; omega
  have hp : (2 : Nat) ^ (8 * k) = 256 ^ k := by rw [Nat.pow_mul]
  have h7 : 256 ^ k ≤ 256 ^ 7 := Nat.pow_le_pow_right (by omega) hk
  have e7 : (256 : Nat) ^ 7 = 72057594037927936 := by decide
  have hb : c * 256 ^ k < 18446744073709551616 := by
    have : c * 256 ^ k ≤ 255 * 256 ^ 7 := Nat.mul_le_mul (by omega) h7
    omega
  have hcast : ((c : Int) * 2 ^ (8 * k)) = ((c * 256 ^ k : Nat) : Int) := by
    rw [← hp]; simp
  rw [hcw, hcast]
  have key : ∀ x y : Int, bits .or .i64 x y = IntKind.i64.wrap (((BitVec.ofInt 64 x) ||| (BitVec.ofInt 64 y)).toNat : Int) := fun _ _ => rfl
  rw [key, ofInt_wrap, ofInt_wrap, wrap_i64, BitVec.ofInt_natCast, BitVec.ofInt_natCast, BitVec.toNat_or, BitVec.toNat_ofNat, BitVec.toNat_ofNat, Nat.mod_eq_of_lt (by omega), Nat.mod_eq_of_lt (by omega)]
  have hor : a ||| c * 256 ^ k = a + c * 256 ^ k := by
    rw [← hp, Nat.mul_comm c, Nat.or_comm, ← Nat.two_pow_add_eq_or_of_lt (by rw [hp]; exact ha), Nat.add_comm]
  rw [hor]

/-- What is there of bytes, behind a take. -/
theorem Taken.lies {w w1 : World} {bs : List Blk} {a need : Int} {e : Ending} (h : Taken w bs a 8 need e w1) : ∃ (l : Str) (A : Option Addr) (n c : Nat), e = .returned (.tuple #[.slice A n c, .int .i64 (goes bs a 8 need)]) ∧ Src w1 (fun k => k < w1.heap.size) A n c (cells l) ∧ n ≤ 8 ∧ l = (if goes bs a 8 need = 0 then got bs a 8 else []) := by
  obtain ⟨hb, ⟨h1, rfl⟩ | ⟨h1, gn, rfl, ho⟩⟩ := h
  · refine ⟨[], none, 0, 0, rfl, ⟨rfl, fun _ => ⟨rfl, rfl⟩, Nat.le_refl _, (by intro ad hA; cases hA), (by intro ad hA; cases hA)⟩, by omega, by rw [if_neg h1]⟩
  · refine ⟨got bs a 8, some ⟨gn, 0, none⟩, 8, 8, by rw [h1]; rfl, (Src.of_own ho).weak fun k hk => hk.2.2, by omega, by rw [if_pos h1]⟩
def wordAt (bs : List Blk) (a need : Int) : Int := val (if goes bs a 8 need = 0 then got bs a 8 else [])
set_option maxRecDepth 100000 in
set_option maxHeartbeats 2000000 in
theorem takeWord_any (B g : Nat) (A : Option Addr) (c : Nat) (rs : List Raw) (a need : Int) (ha : I64 a) (w : World) (h : Sp w B g A c rs) :
    Calls Tryd.prog 103 #[.pointer (some ⟨g, 0, none⟩), .int .i64 a, .int .i64 need] w fun e w' => Below w.heap.size w w' ∧ e = .returned (.tuple #[.int .i64 (wordAt (blks rs) a need), .int .i64 (goes (blks rs) a 8 need)]) := by
  have HT := Lib.hid (take_any B g A c rs a 8 need ha w h)
  clear h
  generalize hV : wordAt (blks rs) a need = V
  generalize hE : goes (blks rs) a 8 need = E
  have HV := Lib.hid hV
  have HE := Lib.hid hE
  clear hV hE
  go_enter Tryd.func103, Tryd.ntmps103
  go_wp2_with fail
  refine HT.out.mono ?_
  intro e w1 ht
  have HB := Lib.hid ht.1
  obtain ⟨l, A1, n, c1, rfl, hs, hn, hl⟩ := ht.lies
  have HW := Lib.hid (show V = val l by rw [← HV.out]; unfold wordAt; rw [hl])
  have HL := Lib.hid (show l.length = n by have := hs.len; rwa [cells_len] at this)
  have HX := Lib.hid hs
  rw [HE.out]
  clear hs hl ht HT HV HE
  go_wp2_with fail
  go_loop [10, 11, 12, 22] (fun m _ _ i => ∃ k : Nat, k ≤ n ∧ i = .int .i64 k ∧ m = .int .i64 (val (l.take k))) (fun _ _ _ i => n - (intOf i).toNat)
  case atStart => exact ⟨0, Nat.zero_le _, rfl, by simp [val, valN, wrap64]⟩
  case round =>
    obtain ⟨k, hk, rfl, rfl⟩ := hrel
    by_cases hlt : k < n
    · have hkl : k < l.length := by rw [HL.out]; exact hlt
      obtain ⟨ad, rfl⟩ : ∃ ad, A1 = some ad := by
        cases A1 with
        | none => have := (HX.out.nil rfl).1; omega
        | some ad => exact ⟨ad, rfl⟩
      have hcell : w1.cell? (ad.add k) = some (.int .u8 (l[k].toNat : Int)) := HX.out.at_ ad rfl k _ (by simp [cells, List.getElem?_eq_getElem hkl])
      have hcap := HX.out.cap
      have hs : bits .or .i64 (val (l.take k)) (wrap64 (wrap64 (l[k].toNat : Int) * 2 ^ (8 * k))) = val (l.take (k + 1)) := by
        have e : l.take (k + 1) = l.take k ++ [l[k]] := List.take_succ_eq_append_getElem hkl
        have hlen : (l.take k).length = k := by rw [List.length_take]; omega
        have hlt' := valN_lt (l.take k)
        rw [hlen] at hlt'
        unfold val
        rw [or_byte _ _ k (by omega) hlt' l[k].toNat_lt, e, valN_snoc, hlen]
      have HS := Lib.hid hs
      clear hs
      go_wp2
      go_round
      case rel => exact ⟨k + 1, by omega, by go_num, by rw [HS.out]⟩
      case measure => simp [intOf]; omega
    · obtain rfl : k = n := by omega
      go_wp2
      first | go_ret2 | skip
      have : l.take k = l := List.take_of_length_le (by rw [HL.out]; exact Nat.le_refl _)
      rw [this, HW.out]
      exact ⟨HB.out, rfl⟩
end Go.Proofs.YtfkhfjefddgkoaaDoor
