/-
  A space in memory; bytes taken from it.
-/
import Derived.Test.YtfkhfjefddgkoaaDoorZSI
namespace Go.Proofs.YtfkhfjefddgkoaaDoor
open Go.RowKit

/-- A space whose box is the block g. -/
structure Sp (w : World) (B g : Nat) (A : Option Addr) (c : Nat) (rs : List Raw) : Prop where
  hg : B ≤ g
  box : Bx w g #[.slice A rs.length c] 97
  own : w.ownsRow B 122 4 (.slice A rs.length c) rs.length (rcells rs)
  bytes : ∀ r ∈ rs, w.ownsRow B 5 1 (.slice r.A r.b.bytes.length r.c) r.b.bytes.length (cells r.b.bytes)
  short : ∀ r ∈ rs, (r.b.bytes.length : Int) ≤ r.b.size ∧ r.b.size ≤ 1048576
  ne : row A ≠ some g
  apart : ∀ r ∈ rs, ∀ q, row r.A = some q → q ≠ g ∧ some q ≠ row A
  pair : rs.Pairwise fun r r' => ∀ q, row r.A = some q → row r'.A ≠ some q
  ord : Ord rs
/-- The blocks that a space lies in. -/
def Foot (g : Nat) (A : Option Addr) (rs : List Raw) (k : Nat) : Prop := k = g ∨ some k = row A ∨ ∃ r ∈ rs, some k = row r.A
theorem Sp.lt {w : World} {B g : Nat} {A : Option Addr} {c : Nat} {rs : List Raw} (h : Sp w B g A c rs) {k : Nat} (hk : Foot g A rs k) : B ≤ k ∧ k < w.heap.size := by
  rcases hk with rfl | hk | ⟨r, hr, hk⟩
  · exact ⟨h.hg, h.box.lt⟩
  · exact h.own.lt k (by rw [row_own]; exact hk.symm)
  · exact (h.bytes r hr).lt k (by rw [row_own]; exact hk.symm)
theorem Sp.beside {w w' : World} {p : Nat → Prop} {B g : Nat} {A : Option Addr} {c : Nat} {rs : List Raw} (h : Sp w B g A c rs) (hb : Beside w w' p) (hn : ∀ k, Foot g A rs k → ¬ p k) : Sp w' B g A c rs :=
  ⟨h.hg, h.box.beside hb (hn g (.inl rfl)), own_beside h.own hb fun k hk => hn k (.inr (.inl (by rw [row_own] at hk; exact hk.symm))),
    fun r hr => own_beside (h.bytes r hr) hb fun k hk => hn k (.inr (.inr ⟨r, hr, by rw [row_own] at hk; exact hk.symm⟩)), h.short, h.ne, h.apart, h.pair, h.ord⟩
theorem Beside.of_below {w w' : World} (h : Below w.heap.size w w') (p : Nat → Prop) : Beside w w' p := ⟨h.os, h.tape, h.output, h.size, fun k hk _ => h.block k hk⟩
theorem ord_few : ∀ {rs : List Raw}, Ord rs → rs.length ≤ 67108864 := by
  intro rs h
  have key : ∀ j (hj : j < rs.length), 4096 + (j : Int) * 64 ≤ rs[j].b.at_ := by
    intro j
    induction j with
    | zero => intro hj; have := (h.fit rs[0] (List.getElem_mem hj)).1; omega
    | succ j ih =>
      intro hj
      have h1 := ih (by omega)
      have h2 := h.next j (j + 1) (by omega) hj (by omega)
      have h3 := (h.fit rs[j] (List.getElem_mem (by omega))).2.1
      omega
  rcases Nat.eq_zero_or_pos rs.length with h0 | h0
  · omega
  · have h1 := key (rs.length - 1) (by omega)
    have h2 := (h.fit rs[rs.length - 1] (List.getElem_mem (by omega))).2
    omega
theorem Sp.bls {w : World} {B g : Nat} {A : Option Addr} {c : Nat} {rs : List Raw} (h : Sp w B g A c rs) : Bls w A rs.length c rs := Bls.of_own h.own

/-- What an access answers: the block that holds the range, if one does, and whether it may be so used. -/
def holder (bs : List Blk) (a n : Int) : Option Blk := bs.find? fun b => decide (b.at_ ≤ a ∧ a + n ≤ b.at_ + b.size)
def goes (bs : List Blk) (a n need : Int) : Int :=
  if n < 1 ∨ 1048576 < n then 1 else match holder bs a n with
    | none => 50
    | some b => if bits .and .i64 b.perm need = need then 0 else 52
def got (bs : List Blk) (a n : Int) : Str := match holder bs a n with
  | none => []
  | some b => readM b.bytes (a - b.at_).toNat n.toNat
abbrev blks (rs : List Raw) : List Blk := rs.map (·.b)
theorem holder_none {rs : List Raw} {a n : Int} (h : ∀ (k : Nat) (hk : k < rs.length), ¬ (rs[k].b.at_ ≤ a ∧ a + n ≤ rs[k].b.at_ + rs[k].b.size)) : holder (blks rs) a n = none := by
  unfold holder
  rw [List.find?_eq_none]
  intro b hb
  obtain ⟨r, hr, rfl⟩ := List.mem_map.1 hb
  obtain ⟨k, hk, rfl⟩ := List.getElem_of_mem hr
  simpa using h k hk
theorem holder_some {rs : List Raw} (ho : Ord rs) {a n : Int} (hn : 1 ≤ n) {k : Nat} (hk : k < rs.length) (h1 : rs[k].b.at_ ≤ a) (h2 : a + n ≤ rs[k].b.at_ + rs[k].b.size) : holder (blks rs) a n = some rs[k].b := by
  unfold holder
  rw [List.find?_eq_some_iff_getElem]
  refine ⟨by simpa using ⟨h1, h2⟩, k, by simpa using hk, by simp, fun j hj => ?_⟩
  have hj2 : j < rs.length := by omega
  have h3 := ho.next j k hj2 hk hj
  simp
  omega
/-- Behind a take: the bytes in a new slice, or an error's number. -/
def Taken (w : World) (bs : List Blk) (a n need : Int) (e : Ending) (w' : World) : Prop := Below w.heap.size w w' ∧
  ((goes bs a n need ≠ 0 ∧ e = .returned (.tuple #[.slice none 0 0, .int .i64 (goes bs a n need)])) ∨
   (goes bs a n need = 0 ∧ ∃ gn, e = .returned (.tuple #[.slice (some ⟨gn, 0, none⟩) n.toNat n.toNat, .int .i64 0]) ∧ w'.ownsRow w.heap.size 5 1 (.slice (some ⟨gn, 0, none⟩) n.toNat n.toNat) n.toNat (cells (got bs a n))))
theorem Taken.no {w w' : World} {bs : List Blk} {a n need k : Int} (hb : Below w.heap.size w w') (h : goes bs a n need = k) (hk : k ≠ 0) : Taken w bs a n need (.returned (.tuple #[.slice none 0 0, .int .i64 k])) w' := by
  subst h
  exact ⟨hb, .inl ⟨hk, rfl⟩⟩
set_option maxRecDepth 100000 in
set_option maxHeartbeats 2000000 in
theorem take_any (B g : Nat) (A : Option Addr) (c : Nat) (rs : List Raw) (a n need : Int) (ha : I64 a) (w : World) (h : Sp w B g A c rs) :
    Calls Tryd.prog 70 #[.pointer (some ⟨g, 0, none⟩), .int .i64 a, .int .i64 n, .int .i64 need] w (Taken w (blks rs) a n need) := by
  have HS := Lib.hid h
  have hc : w.cell? ⟨g, 0, none⟩ = some (.slice A rs.length c) := h.box.c 0
  clear h
  have HZ := Lib.hid (isSize_any n w)
  generalize hL : Taken w (blks rs) a n need = L
  have HL := Lib.hid hL
  clear hL
  by_cases hsz : n < 1 ∨ 1048576 < n
  · have HG := Lib.hid (show goes (blks rs) a n need = 1 by unfold goes; rw [if_pos hsz])
    have hsb : sizeB n = false := by unfold sizeB; simp; omega
    rw [hsb] at HZ
    go_enter Tryd.func70, Tryd.ntmps70
    go_wp2_with fail
    refine HZ.out.mono ?_
    rintro e w1 ⟨rfl, rfl⟩
    clear HZ
    go_wp2_with fail
    rw [← HL.out]
    exact Taken.no (Below.refl _ _) HG.out (by decide)
  · have hsb : sizeB n = true := by unfold sizeB; simp; omega
    rw [hsb] at HZ
    have hn2 : 1 ≤ n ∧ n ≤ 1048576 := by omega
    have HR := Lib.hid (reach_any A rs.length c g rs a n need ha hn2 w hc HS.out.bls HS.out.ord (by have := ord_few HS.out.ord; omega))
    have HGO := Lib.hid (show goes (blks rs) a n need = match holder (blks rs) a n with
      | none => 50
      | some b => if bits .and .i64 b.perm need = need then 0 else 52 from by unfold goes; rw [if_neg hsz])
    clear hsz
    go_enter Tryd.func70, Tryd.ntmps70
    go_wp2_with fail
    refine HZ.out.mono ?_
    rintro e w1 ⟨rfl, rfl⟩
    clear HZ
    go_wp2_with fail
    refine HR.out.mono ?_
    rintro e w1 ⟨hb, hor⟩
    have HB := Lib.hid hb
    clear HR hb
    rcases hor with ⟨k, hk, b, o, rfl, h1, h2, h3, rfl⟩ | ⟨k, hk, h1, h2, h3, rfl⟩ | ⟨h1, rfl⟩
    · have hh := holder_some HS.out.ord hn2.1 hk h1 h2
      have hg0 := HGO.out
      rw [hh] at hg0
      have hg1 : goes (blks rs) a n need = 0 := hg0.trans (if_pos h3)
      have HG := Lib.hid hg1
      have HT := Lib.hid (show got (blks rs) a n = readM rs[k].b.bytes (a - rs[k].b.at_).toNat n.toNat by unfold got; rw [hh])
      have hmem := List.getElem_mem hk
      have hfit := HS.out.ord.fit rs[k] hmem
      have hbl := HS.out.bls.below HB.out
      obtain ⟨c0, _, _, c3⟩ := hbl.at_ b o k rfl hk
      have hsrc := Src.of_own (own_beside (HS.out.bytes rs[k] hmem) (Beside.of_below HB.out (fun _ => False)) (fun _ _ h => h))
      have HLO := Lib.hid (load_any b (o + k * 4) rs[k].b.at_ a n.toNat _ rs[k].A rs[k].c rs[k].b.bytes (by omega) (by omega) w1 c0 c3 hsrc)
      rw [show ((n.toNat : Nat) : Int) = n by omega] at HLO
      clear hbl hsrc c0 c3 hfit hmem hg0 hg1 hh h1 h2 h3
      go_wp2_with fail
      refine HLO.out.mono ?_
      rintro e w2 ⟨gn, rfl, ho, hb2⟩
      have HB2 := Lib.hid (HB.out.trans (hb2.mono HB.out.size))
      have HO := Lib.hid ho
      have hle := HB.out.size
      clear ho hb2 HLO
      go_wp2_with fail
      first | go_ret2 | skip
      rw [← HL.out]
      refine ⟨HB2.out, .inr ⟨HG.out, gn, rfl, ?_⟩⟩
      rw [HT.out]
      exact own_more HO.out hle
    · have hh := holder_some HS.out.ord hn2.1 hk h1 h2
      have hg0 := HGO.out
      rw [hh] at hg0
      have HG := Lib.hid (show goes (blks rs) a n need = 52 from hg0.trans (if_neg h3))
      clear hh hg0 h1 h2 h3
      go_wp2_with fail
      rw [← HL.out]
      exact Taken.no HB.out HG.out (by decide)
    · have hg0 := HGO.out
      rw [holder_none h1] at hg0
      have HG := Lib.hid hg0
      clear hg0 h1
      go_wp2_with fail
      rw [← HL.out]
      exact Taken.no HB.out HG.out (by decide)
end Go.Proofs.YtfkhfjefddgkoaaDoor
