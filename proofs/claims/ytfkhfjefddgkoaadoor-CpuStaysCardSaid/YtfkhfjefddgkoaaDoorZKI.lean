/-
  Instructions in memory; whether all of them may be.
  The bytes of an instruction: the program's and the document's.
  The instruction of eight bytes: the program's and the document's.
-/
import Derived.Test.YtfkhfjefddgkoaaDoorZKC
import Derived.Test.YtfkhfjefddgkoaaDoorZKE
import Derived.Deep.RegionHeld3
namespace Go.Proofs.YtfkhfjefddgkoaaDoor.Cod
open Go.RowKit

theorem may_any (i : Ins) (w : World) (hs : Shps w) : Calls Tryd.prog 102 #[insV i] w fun e w' => e = .returned (.int .i64 (if mayB i then 0 else 40)) ∧ Below w.heap.size w w' := by
  by_cases h : i.op < 0 ∨ 23 ≤ i.op
  · have hm : mayB i = false := by rw [mayB, shapeOf_out h]
    rw [hm]
    exact may_out i h w
  · exact may_in i i.op.toNat (by omega) (by omega) w hs

/-- Instructions in memory. -/
structure Isl (w : World) (P : Nat → Prop) (A : Option Addr) (n c : Nat) (is : List Ins) : Prop where
  len : is.length = n
  nil : A = none → n = 0 ∧ c = 0
  cap : n ≤ c
  blk : ∀ ad, A = some ad → 0 < n → P ad.block
  at_ : ∀ ad, A = some ad → ∀ k (hk : k < is.length), w.cell? (ad.add (k * 5)) = some (.int .i64 is[k].op) ∧ w.cell? (ad.add (k * 5 + 1)) = some (.int .i64 is[k].a) ∧ w.cell? (ad.add (k * 5 + 2)) = some (.int .i64 is[k].b) ∧ w.cell? (ad.add (k * 5 + 3)) = some (.int .i64 is[k].c) ∧ w.cell? (ad.add (k * 5 + 4)) = some (.int .i64 is[k].n)
section
variable {w w' : World} {P Q : Nat → Prop} {A : Option Addr} {n c : Nat} {is : List Ins}
theorem Isl.keep (h : Isl w P A n c is) (hk : ∀ k, P k → k < w.heap.size → w'.heap[k]? = w.heap[k]?) : Isl w' P A n c is :=
  ⟨h.len, h.nil, h.cap, h.blk, fun ad hA k hk' => by
    obtain ⟨h0, h1, h2, h3, h4⟩ := h.at_ ad hA k hk'
    have hb := h.blk ad hA (by rw [← h.len]; omega)
    have hh := World.block_lt_of_cell? w _ h0
    rw [addBlock] at hh
    have hkk := hk _ hb hh
    refine ⟨?_, ?_, ?_, ?_, ?_⟩
    · exact (World.cell?_of_block (w := w) (w' := w') (by rw [addBlock]; exact hkk)).trans h0
    · exact (World.cell?_of_block (w := w) (w' := w') (by rw [addBlock]; exact hkk)).trans h1
    · exact (World.cell?_of_block (w := w) (w' := w') (by rw [addBlock]; exact hkk)).trans h2
    · exact (World.cell?_of_block (w := w) (w' := w') (by rw [addBlock]; exact hkk)).trans h3
    · exact (World.cell?_of_block (w := w) (w' := w') (by rw [addBlock]; exact hkk)).trans h4⟩
theorem Isl.weak (h : Isl w P A n c is) (hk : ∀ k, P k → Q k) : Isl w Q A n c is := ⟨h.len, h.nil, h.cap, fun ad hA hn => hk _ (h.blk ad hA hn), h.at_⟩
theorem Isl.below {B : Nat} (h : Isl w P A n c is) (hb : Below B w w') (hP : ∀ k, P k → k < B) : Isl w' P A n c is :=
  h.keep fun k hk _ => hb.block k (hP k hk)
theorem Isl.lt (h : Isl w P A n c is) : Isl w (fun k => k < w.heap.size) A n c is :=
  ⟨h.len, h.nil, h.cap, fun ad hA hn => (by
    have h2 := (h.at_ ad hA 0 (by rw [h.len]; exact hn)).1
    have := World.block_lt_of_cell? w _ h2
    rw [addBlock] at this
    exact this), h.at_⟩
theorem Isl.plain {ad : Addr} (h : Isl w P (some ad) n c is) (h0 : 0 < n) : ∃ b o, ad = ⟨b, o, none⟩ := by
  obtain ⟨b, o, spot⟩ := ad
  have hs : spot = none := by
    have h0 := World.cell?_spot (h.at_ _ rfl 0 (by rw [h.len]; exact h0)).1
    simpa [Addr.add] using h0
  subst hs
  exact ⟨b, o, rfl⟩
theorem Isl.get {b o : Nat} (h : Isl w P (some ⟨b, o, none⟩) n c is) (k : Nat) (hk : k < is.length) :
    w.cell? ⟨b, o + k * 5, none⟩ = some (.int .i64 is[k].op) ∧ w.cell? ⟨b, o + k * 5 + 1, none⟩ = some (.int .i64 is[k].a) ∧ w.cell? ⟨b, o + k * 5 + 2, none⟩ = some (.int .i64 is[k].b) ∧ w.cell? ⟨b, o + k * 5 + 3, none⟩ = some (.int .i64 is[k].c) ∧ w.cell? ⟨b, o + k * 5 + 4, none⟩ = some (.int .i64 is[k].n) := by
  have := h.at_ _ rfl k hk
  simpa only [plainAdd, Nat.add_assoc] using this
end
/-- Their cells, one behind the other. -/
def icells (is : List Ins) : List Value := is.flatMap insC
theorem icells_len (is : List Ins) : (icells is).length = is.length * 5 := by
  induction is with
  | nil => rfl
  | cons i is ih =>
    have : icells (i :: is) = insC i ++ icells is := rfl
    rw [this, List.length_append, ih, List.length_cons]
    simp
    omega
theorem icells_app (a b : List Ins) : icells (a ++ b) = icells a ++ icells b := by simp [icells]
theorem icells_one (is : List Ins) : ∀ u ∈ icells is, u.oneCell' = true := by
  intro u hu
  obtain ⟨i, _, hi⟩ := List.mem_flatMap.1 hu
  simp at hi
  rcases hi with rfl | rfl | rfl | rfl | rfl <;> rfl
theorem icells_at (is : List Ins) : ∀ (k : Nat) (hk : k < is.length) (j : Nat), j < 5 → (icells is)[k * 5 + j]? = (insC is[k])[j]? := by
  induction is with
  | nil => intro k hk; simp at hk
  | cons i is ih =>
    intro k hk j hj
    have hc : icells (i :: is) = insC i ++ icells is := rfl
    cases k with
    | zero =>
      rw [hc, List.getElem?_append_left (by simp; omega)]
      simp
    | succ k =>
      rw [hc, List.getElem?_append_right (by simp; omega)]
      have := ih k (by simpa using hk) j hj
      rw [show (k + 1) * 5 + j - (insC i).length = k * 5 + j by simp; omega, this]
      rfl
theorem Isl.of_own {w : World} {base : Nat} {e : TypeId} {A : Option Addr} {n c : Nat} {is : List Ins} (h : w.ownsRow base e 5 (.slice A n c) n (icells is)) : Isl w (fun k => row A = some k ∧ base ≤ k ∧ k < w.heap.size) A n c is := by
  have hlen : is.length = n := by
    have := h.1
    rw [icells_len] at this
    omega
  refine ⟨hlen, fun hA => ?_, ?_, fun ad hA _ => ?_, fun ad hA k hk => ?_⟩
  · rcases h.2 with ⟨hv, h0⟩ | ⟨g, cap, cur, hv, _⟩
    · injection hv with _ _ hc
      exact ⟨h0, hc⟩
    · subst hA; injection hv with h1; cases h1
  · rcases h.2 with ⟨hv, h0⟩ | ⟨g, cap, cur, hv, _, _, hle, _⟩
    · omega
    · injection hv with _ _ hc; subst hc; exact hle
  · subst hA
    exact ⟨rfl, h.lt ad.block rfl⟩
  · subst hA
    rcases h.2 with ⟨hv, h0⟩ | ⟨g, cap, cur, hv, _⟩
    · cases hv
    · have hcs := h.cells (g := ad.block) rfl
      injection hv with h1
      injection h1 with h1
      subst h1
      exact ⟨hcs _ _ (icells_at is k hk 0 (by omega)), hcs _ _ (icells_at is k hk 1 (by omega)), hcs _ _ (icells_at is k hk 2 (by omega)), hcs _ _ (icells_at is k hk 3 (by omega)), hcs _ _ (icells_at is k hk 4 (by omega))⟩

set_option maxRecDepth 100000 in
set_option maxHeartbeats 1000000 in
theorem areValid_any (P : Nat → Prop) (A : Option Addr) (n c : Nat) (is : List Ins) (w : World) (h : Isl w P A n c is) (hn : n ≤ 4611686018427387904) (hs : Shps w) :
    Calls Tryd.prog 95 #[.slice A n c] w fun e w' => e = .returned (.bool (is.all mayB)) ∧ Below w.heap.size w w' := by
  have H := Lib.hid h.lt
  have HS := Lib.hid hs
  have hl := h.len
  clear h hs
  generalize hR : is.all mayB = R
  have HR := Lib.hid hR
  clear hR
  go_enter Tryd.func95, Tryd.ntmps95
  go_wp2_with fail
  go_loopw [7] (fun t wr => ∃ k : Nat, k ≤ n ∧ t = .int .i64 k ∧ Below w.heap.size w wr ∧ (is.take k).all mayB = true) (fun t _ => n - (intOf t).toNat)
  case atStart => exact ⟨0, Nat.zero_le _, rfl, Below.refl _ _, rfl⟩
  case round =>
    obtain ⟨k, hk, rfl, hb, hall⟩ := hrel
    have HB := Lib.hid hb
    have HA := Lib.hid hall
    clear hb hall
    by_cases hkn : k < n
    · have hki : k < is.length := by omega
      cases A with
      | none => have := (H.out.nil rfl).1; omega
      | some ad =>
        obtain ⟨b, o, rfl⟩ := H.out.plain (by omega)
        obtain ⟨c0, c1, c2, c3, c4⟩ := (H.out.below HB.out (fun _ h => h)).get k hki
        have HTK := Lib.hid (show (is.take (k + 1)).all mayB = mayB is[k] by
          rw [List.take_succ_eq_append_getElem hki, List.all_append, HA.out]
          simp)
        have HNO := Lib.hid (show mayB is[k] = false → is.all mayB = false by
          intro h
          rw [List.all_eq_false]
          exact ⟨_, List.getElem_mem hki, fun e => Bool.noConfusion (h.symm.trans e)⟩)
        have hm := fun w1 (hb1 : Below w.heap.size w w1) => may_any is[k] w1 (HS.out.below hb1)
        generalize is[k] = i at *
        obtain ⟨op, a, b', c', n'⟩ := i
        simp only at c0 c1 c2 c3 c4
        have HM := Lib.hid hm
        clear hm
        cases hmay : mayB ⟨op, a, b', c', n'⟩
        · rw [hmay] at HM HNO
          have HRF := Lib.hid (show R = false by rw [← HR.out]; exact HNO.out rfl)
          clear hmay HTK HNO HA
          go_wp2_with fail
          refine (HM.out _ (HB.out.alloc HB.out.size _)).mono ?_
          rintro e w2 ⟨rfl, hb2⟩
          have HB2 := Lib.hid hb2
          clear hb2
          go_wp2
          go_ret
          exact ⟨by rw [HRF.out]; rfl, (HB.out.alloc HB.out.size _).trans (HB2.out.mono (by have := HB.out.size; simp; omega))⟩
        · rw [hmay] at HM HTK
          clear hmay HNO HA
          go_wp2_with fail
          refine (HM.out _ (HB.out.alloc HB.out.size _)).mono ?_
          rintro e w2 ⟨rfl, hb2⟩
          have HB2 := Lib.hid hb2
          clear hb2
          go_wp2
          exact ⟨⟨k + 1, by omega, by go_num, (HB.out.alloc HB.out.size _).trans (HB2.out.mono (by have := HB.out.size; simp; omega)), HTK.out⟩, by simp [intOf]; omega⟩
    · obtain rfl : k = n := by omega
      have HRT := Lib.hid (show R = true by
        have := HA.out
        rw [List.take_of_length_le (by omega)] at this
        exact HR.out.symm.trans this)
      clear HA
      go_wp2
      go_ret
      exact ⟨by rw [HRT.out]; rfl, HB.out⟩
end Go.Proofs.YtfkhfjefddgkoaaDoor.Cod

namespace Go.Proofs.YtfkhfjefddgkoaaDoor.Cod
open Go.RowKit

def u8i (n : Int) : UInt8 := UInt8.ofNat (n % 256).toNat
theorem u8i_val (n : Int) : ((u8i n).toNat : Int) = n % 256 := by
  have h1 : 0 ≤ n % 256 := Int.emod_nonneg _ (by decide)
  have h2 : n % 256 < 256 := Int.emod_lt_of_pos _ (by decide)
  rw [u8i, UInt8.toNat_ofNat', Nat.mod_eq_of_lt (by omega)]
  omega
abbrev b8 (n : Int) : Value := .int .u8 ((u8i n).toNat : Int)
/-- The bytes of an instruction. -/
def bytesOf (i : Ins) : Str := [u8i i.op, u8i i.a, u8i i.b, u8i i.c, u8i i.n, u8i (i.n % 4294967296 / 256), u8i (i.n % 4294967296 / 65536), u8i (i.n % 4294967296 / 16777216)]
def cells (l : Str) : List Value := l.map fun b => .int .u8 (b.toNat : Int)
theorem cells_len (l : Str) : (cells l).length = l.length := by simp [cells]
theorem cells_one (l : Str) : ∀ u ∈ cells l, u.oneCell' = true := by
  intro u hu
  obtain ⟨b, _, rfl⟩ := List.mem_map.1 hu
  rfl
theorem cells_app (l m : Str) : cells (l ++ m) = cells l ++ cells m := by simp [cells]
theorem Tryd.info_u8 : (Tryd.prog.info? 5).map (fun i => (i.zero, i.size, i.bytes)) = some (some (.int .u8 0), 1, 1) := by kernel_rfl
theorem cells_new (w : World) (cs : List Value) (t : TypeId) : ∀ j u, cs[j]? = some u → (w.alloc (.cells cs.toArray t)).cell? ((⟨w.heap.size, 0, none⟩ : Addr).add j) = some u := by
  intro j u hj
  rw [plainAdd, Nat.zero_add, cell_of_row _ _ j _ _ _ (heap_alloc_new w _)]
  simpa using hj

/-- The bytes as they are reckoned. -/
def vals8 (op a b c m : Int) : List Value := [.int .u8 (op % 256), .int .u8 (a % 256), .int .u8 (b % 256), .int .u8 (c % 256), .int .u8 (m % 256), .int .u8 (m % 4294967296 / 256 % 256), .int .u8 (m % 4294967296 / 65536 % 256), .int .u8 (m % 4294967296 / 16777216)]
theorem vals8_eq (i : Ins) : vals8 i.op i.a i.b i.c i.n = cells (bytesOf i) := by
  have h : i.n % 4294967296 / 16777216 % 256 = i.n % 4294967296 / 16777216 := by omega
  simp only [vals8, cells, bytesOf, List.map_cons, List.map_nil, u8i_val, h]

set_option maxRecDepth 100000 in
theorem rbytes_any (i : Ins) (w : World) (h : mayB i = true) :
    Calls Tryd.prog 20 #[insV i] w fun e w' => e = .returned (.slice (some ⟨w.heap.size + 1, 0, none⟩) 8 8) ∧ Below w.heap.size w w' ∧ Src w' (fun _ => True) (some ⟨w.heap.size + 1, 0, none⟩) 8 8 (cells (bytesOf i)) := by
  have hm : -2147483648 ≤ i.n ∧ i.n ≤ 2147483647 := by
    unfold mayB at h
    split at h
    · cases h
    · rw [Bool.and_eq_true] at h
      have h2 := h.2
      unfold numOk at h2
      split at h2
      · simpa using h2
      · have : i.n = 0 := by simpa using h2
        omega
  rw [← vals8_eq]
  obtain ⟨op, a, b, c, m⟩ := i
  simp only at hm
  have fin : ∀ l : List Value, l = vals8 op a b c m →
      Below w.heap.size w ((w.alloc (.cells #[.int .i64 op, .int .i64 a, .int .i64 b, .int .i64 c, .int .i64 m] 51)).alloc (.cells l.toArray 5)) ∧ Src ((w.alloc (.cells #[.int .i64 op, .int .i64 a, .int .i64 b, .int .i64 c, .int .i64 m] 51)).alloc (.cells l.toArray 5)) (fun _ => True) (some ⟨w.heap.size + 1, 0, none⟩) 8 8 (vals8 op a b c m) := by
    rintro l rfl
    exact ⟨((Below.refl _ w).alloc (Nat.le_refl _) _).alloc (by simp) _, rfl, (by intro h; cases h), Nat.le_refl _, (by intro _ _ _; trivial), fun ad ha j u hu => by
      cases ha
      have := cells_new (w.alloc (.cells #[.int .i64 op, .int .i64 a, .int .i64 b, .int .i64 c, .int .i64 m] 51)) (vals8 op a b c m) 5 j u hu
      simpa using this⟩
  by_cases h0 : m < 0
  · have e1 : wrap64 (m + 4294967296) = m + 4294967296 := IntWalk.wrap64_in _ (by omega)
    have q : (m + 4294967296) % 4294967296 = m + 4294967296 := by omega
    have FIN := Lib.hid (fin _ (show [.int .u8 (op % 256), .int .u8 (a % 256), .int .u8 (b % 256), .int .u8 (c % 256), .int .u8 ((wrap64 (m + 4294967296)).tmod 256 % 256), .int .u8 ((wrap64 ((wrap64 (m + 4294967296)).tdiv 256)).tmod 256 % 256), .int .u8 ((wrap64 ((wrap64 (m + 4294967296)).tdiv 65536)).tmod 256 % 256), .int .u8 (wrap64 ((wrap64 (m + 4294967296)).tdiv 16777216) % 256)] = vals8 op a b c m by
      have t1 : (m + 4294967296).tdiv 256 = (m + 4294967296) / 256 := Int.tdiv_eq_ediv_of_nonneg (by omega)
      have t2 : (m + 4294967296).tdiv 65536 = (m + 4294967296) / 65536 := Int.tdiv_eq_ediv_of_nonneg (by omega)
      have t3 : (m + 4294967296).tdiv 16777216 = (m + 4294967296) / 16777216 := Int.tdiv_eq_ediv_of_nonneg (by omega)
      have w1 : wrap64 ((m + 4294967296) / 256) = (m + 4294967296) / 256 := IntWalk.wrap64_in _ (by omega)
      have w2 : wrap64 ((m + 4294967296) / 65536) = (m + 4294967296) / 65536 := IntWalk.wrap64_in _ (by omega)
      have w3 : wrap64 ((m + 4294967296) / 16777216) = (m + 4294967296) / 16777216 := IntWalk.wrap64_in _ (by omega)
      have r0 : (m + 4294967296).tmod 256 = (m + 4294967296) % 256 := Int.tmod_eq_emod_of_nonneg (by omega)
      have r1 : ((m + 4294967296) / 256).tmod 256 = (m + 4294967296) / 256 % 256 := Int.tmod_eq_emod_of_nonneg (by omega)
      have r2 : ((m + 4294967296) / 65536).tmod 256 = (m + 4294967296) / 65536 % 256 := Int.tmod_eq_emod_of_nonneg (by omega)
      have mq : m % 4294967296 = m + 4294967296 := by omega
      have z0 : (m + 4294967296) % 256 % 256 = m % 256 := by omega
      have z1 : (m + 4294967296) / 256 % 256 % 256 = (m + 4294967296) / 256 % 256 := by omega
      have z2 : (m + 4294967296) / 65536 % 256 % 256 = (m + 4294967296) / 65536 % 256 := by omega
      have z3 : (m + 4294967296) / 16777216 % 256 = (m + 4294967296) / 16777216 := by omega
      simp only [vals8, e1, t1, t2, t3, w1, w2, w3, r0, r1, r2, mq, z0, z1, z2, z3]))
    clear fin q hm
    clear e1
    go_enter Tryd.func20, Tryd.ntmps20
    go_wp2
    go_ret
    exact ⟨rfl, FIN.out⟩
  · have FIN := Lib.hid (fin _ (show [.int .u8 (op % 256), .int .u8 (a % 256), .int .u8 (b % 256), .int .u8 (c % 256), .int .u8 (m % 256), .int .u8 ((wrap64 (m.tdiv 256)).tmod 256 % 256), .int .u8 ((wrap64 (m.tdiv 65536)).tmod 256 % 256), .int .u8 (wrap64 (m.tdiv 16777216) % 256)] = vals8 op a b c m by
      have t1 : m.tdiv 256 = m / 256 := Int.tdiv_eq_ediv_of_nonneg (by omega)
      have t2 : m.tdiv 65536 = m / 65536 := Int.tdiv_eq_ediv_of_nonneg (by omega)
      have t3 : m.tdiv 16777216 = m / 16777216 := Int.tdiv_eq_ediv_of_nonneg (by omega)
      have w1 : wrap64 (m / 256) = m / 256 := IntWalk.wrap64_in _ (by omega)
      have w2 : wrap64 (m / 65536) = m / 65536 := IntWalk.wrap64_in _ (by omega)
      have w3 : wrap64 (m / 16777216) = m / 16777216 := IntWalk.wrap64_in _ (by omega)
      have r1 : (m / 256).tmod 256 = m / 256 % 256 := Int.tmod_eq_emod_of_nonneg (by omega)
      have r2 : (m / 65536).tmod 256 = m / 65536 % 256 := Int.tmod_eq_emod_of_nonneg (by omega)
      have mq : m % 4294967296 = m := by omega
      have z1 : m / 256 % 256 % 256 = m / 256 % 256 := by omega
      have z2 : m / 65536 % 256 % 256 = m / 65536 % 256 := by omega
      have z3 : m / 16777216 % 256 = m / 16777216 := by omega
      simp only [vals8, t1, t2, t3, w1, w2, w3, r1, r2, mq, z1, z2, z3]))
    have h00 : 0 ≤ m := by omega
    clear fin hm
    go_enter Tryd.func20, Tryd.ntmps20
    go_wp2
    go_ret
    exact ⟨rfl, FIN.out⟩
end Go.Proofs.YtfkhfjefddgkoaaDoor.Cod

namespace Go.Proofs.YtfkhfjefddgkoaaDoor.Cod
open Go.RowKit

def m4 (a b c d : UInt8) : Nat := a.toNat + b.toNat * 256 + c.toNat * 65536 + d.toNat * 16777216
def n4 (a b c d : UInt8) : Int := if 2147483648 ≤ m4 a b c d then (m4 a b c d : Int) - 4294967296 else m4 a b c d
def insOf (x0 x1 x2 x3 x4 x5 x6 x7 : UInt8) : Ins := ⟨x0.toNat, x1.toNat, x2.toNat, x3.toNat, n4 x4 x5 x6 x7⟩

theorem or32 (a c s : Nat) (ha : a < 2 ^ s) (h : a + c * 2 ^ s < 4294967296) : bits .or .u32 (a : Int) ((c * 2 ^ s : Nat) : Int) = ((a + c * 2 ^ s : Nat) : Int) := by
  have key : ∀ x y : Int, bits .or .u32 x y = IntKind.u32.wrap (((BitVec.ofInt 32 x) ||| (BitVec.ofInt 32 y)).toNat : Int) := fun _ _ => rfl
  have hor : a ||| c * 2 ^ s = a + c * 2 ^ s := by
    rw [Nat.mul_comm c, Nat.or_comm, ← Nat.two_pow_add_eq_or_of_lt ha, Nat.add_comm]
  rw [key, BitVec.ofInt_natCast, BitVec.ofInt_natCast, BitVec.toNat_or, BitVec.toNat_ofNat, BitVec.toNat_ofNat, Nat.mod_eq_of_lt (by omega), Nat.mod_eq_of_lt (by omega), hor, IntKind.wrap_u32]
  exact Int.emod_eq_of_lt (by omega) (by omega)

theorem or4 (x4 x5 x6 x7 : UInt8) : bits .or .u32 (bits .or .u32 (bits .or .u32 (x4.toNat : Int) ((x5.toNat : Int) * 256)) ((x6.toNat : Int) * 65536)) ((x7.toNat : Int) * 16777216) = (m4 x4 x5 x6 x7 : Int) := by
  have b4 := x4.toNat_lt
  have b5 := x5.toNat_lt
  have b6 := x6.toNat_lt
  have b7 := x7.toNat_lt
  have h1 := or32 x4.toNat x5.toNat 8 (by omega) (by omega)
  have h2 := or32 (x4.toNat + x5.toNat * 2 ^ 8) x6.toNat 16 (by omega) (by omega)
  have h3 := or32 (x4.toNat + x5.toNat * 2 ^ 8 + x6.toNat * 2 ^ 16) x7.toNat 24 (by omega) (by omega)
  have e1 : ((x5.toNat : Int) * 256) = ((x5.toNat * 2 ^ 8 : Nat) : Int) := by simp
  have e2 : ((x6.toNat : Int) * 65536) = ((x6.toNat * 2 ^ 16 : Nat) : Int) := by simp
  have e3 : ((x7.toNat : Int) * 16777216) = ((x7.toNat * 2 ^ 24 : Nat) : Int) := by simp
  rw [e1, h1, e2, h2, e3, h3]
  simp [m4]
theorem wrap_n4 (a b c d : UInt8) : wrap32 (m4 a b c d : Int) = n4 a b c d := by
  have b4 := a.toNat_lt
  have b5 := b.toNat_lt
  have b6 := c.toNat_lt
  have b7 := d.toNat_lt
  have hm : m4 a b c d < 4294967296 := by unfold m4; omega
  unfold n4 wrap32
  split <;> omega

theorem n4_range (a b c d : UInt8) : -2147483648 ≤ n4 a b c d ∧ n4 a b c d ≤ 2147483647 := by
  have b4 := a.toNat_lt
  have b5 := b.toNat_lt
  have b6 := c.toNat_lt
  have b7 := d.toNat_lt
  have hm : m4 a b c d < 4294967296 := by unfold m4; omega
  unfold n4
  split <;> omega
theorem wrap_u8 (x : UInt8) : IntKind.i64.wrap (x.toNat : Int) = x.toNat := by
  have := x.toNat_lt
  rw [show IntKind.i64.wrap (x.toNat : Int) = wrap64 (x.toNat : Int) by unfold wrap64; simp [IntKind.wrap, IntKind.bits, IntKind.signed]; omega, IntWalk.wrap64_in _ (by omega)]
/-- Eight bytes in memory. -/
theorem eight {w : World} {P : Nat → Prop} {A : Option Addr} {n c : Nat} {x0 x1 x2 x3 x4 x5 x6 x7 : UInt8} {l : Str} (h : Src w P A n c (cells (x0 :: x1 :: x2 :: x3 :: x4 :: x5 :: x6 :: x7 :: l))) :
    ∃ b o, A = some ⟨b, o, none⟩ ∧ w.cell? ⟨b, o, none⟩ = some (.int .u8 x0.toNat) ∧ w.cell? ⟨b, o + 1, none⟩ = some (.int .u8 x1.toNat) ∧ w.cell? ⟨b, o + 2, none⟩ = some (.int .u8 x2.toNat) ∧ w.cell? ⟨b, o + 3, none⟩ = some (.int .u8 x3.toNat) ∧
      w.cell? ⟨b, o + 4, none⟩ = some (.int .u8 x4.toNat) ∧ w.cell? ⟨b, o + 5, none⟩ = some (.int .u8 x5.toNat) ∧ w.cell? ⟨b, o + 6, none⟩ = some (.int .u8 x6.toNat) ∧ w.cell? ⟨b, o + 7, none⟩ = some (.int .u8 x7.toNat) ∧ 8 ≤ n := by
  have hl := h.len
  simp only [cells_len, List.length_cons] at hl
  cases A with
  | none => have := (h.nil rfl).1; omega
  | some ad =>
    obtain ⟨b, o, spot⟩ := ad
    have h0 := World.cell?_spot (h.at_ _ rfl 0 _ rfl)
    have hs : spot = none := by simpa [Addr.add] using h0
    subst hs
    have c0 := h.at_ _ rfl 0 _ rfl
    have c1 := h.at_ _ rfl 1 _ rfl
    have c2 := h.at_ _ rfl 2 _ rfl
    have c3 := h.at_ _ rfl 3 _ rfl
    have c4 := h.at_ _ rfl 4 _ rfl
    have c5 := h.at_ _ rfl 5 _ rfl
    have c6 := h.at_ _ rfl 6 _ rfl
    have c7 := h.at_ _ rfl 7 _ rfl
    simp only [plainAdd, Nat.add_zero] at c0 c1 c2 c3 c4 c5 c6 c7
    exact ⟨b, o, rfl, c0, c1, c2, c3, c4, c5, c6, c7, by omega⟩
theorem below_set5 {w w' : World} {B g : Nat} (h : Below B w w') (hg : B ≤ g) (u0 u1 u2 u3 u4 : Value) : Below B w (((((w'.setCell ⟨g, 0, none⟩ u0).setCell ⟨g, 1, none⟩ u1).setCell ⟨g, 2, none⟩ u2).setCell ⟨g, 3, none⟩ u3).setCell ⟨g, 4, none⟩ u4) :=
  ((((h.setCell (p := ⟨g, 0, none⟩) hg u0).setCell (p := ⟨g, 1, none⟩) hg u1).setCell (p := ⟨g, 2, none⟩) hg u2).setCell (p := ⟨g, 3, none⟩) hg u3).setCell (p := ⟨g, 4, none⟩) hg u4

set_option maxRecDepth 100000 in
set_option maxHeartbeats 2000000 in
theorem fromBytes_any (P : Nat → Prop) (A : Option Addr) (n c : Nat) (x0 x1 x2 x3 x4 x5 x6 x7 : UInt8) (l : Str) (w : World) (h : Src w P A n c (cells (x0 :: x1 :: x2 :: x3 :: x4 :: x5 :: x6 :: x7 :: l))) :
    Calls Tryd.prog 94 #[.slice A n c] w fun e w' => e = .returned (insV (insOf x0 x1 x2 x3 x4 x5 x6 x7)) ∧ Below w.heap.size w w' := by
  obtain ⟨b, o, rfl, c0, c1, c2, c3, c4, c5, c6, c7, hl⟩ := eight h
  have b0 := x0.toNat_lt
  have b1 := x1.toNat_lt
  have b2 := x2.toNat_lt
  have b3 := x3.toNat_lt
  have b4 := x4.toNat_lt
  have b5 := x5.toNat_lt
  have b6 := x6.toNat_lt
  have b7 := x7.toNat_lt
  have n0 : (0 : Int) < (n : Int) := by omega
  have n1 : (1 : Int) < (n : Int) := by omega
  have n2 : (2 : Int) < (n : Int) := by omega
  have n3 : (3 : Int) < (n : Int) := by omega
  have n4' : (4 : Int) < (n : Int) := by omega
  have n5 : (5 : Int) < (n : Int) := by omega
  have n6 : (6 : Int) < (n : Int) := by omega
  have n7 : (7 : Int) < (n : Int) := by omega
  have d0 := cell_alloc c0 (.cells #[.int .i64 0, .int .i64 0, .int .i64 0, .int .i64 0, .int .i64 0] 51)
  have d1 := cell_alloc c1 (.cells #[.int .i64 0, .int .i64 0, .int .i64 0, .int .i64 0, .int .i64 0] 51)
  have d2 := cell_alloc c2 (.cells #[.int .i64 0, .int .i64 0, .int .i64 0, .int .i64 0, .int .i64 0] 51)
  have d3 := cell_alloc c3 (.cells #[.int .i64 0, .int .i64 0, .int .i64 0, .int .i64 0, .int .i64 0] 51)
  have d4 := cell_alloc c4 (.cells #[.int .i64 0, .int .i64 0, .int .i64 0, .int .i64 0, .int .i64 0] 51)
  have d5 := cell_alloc c5 (.cells #[.int .i64 0, .int .i64 0, .int .i64 0, .int .i64 0, .int .i64 0] 51)
  have d6 := cell_alloc c6 (.cells #[.int .i64 0, .int .i64 0, .int .i64 0, .int .i64 0, .int .i64 0] 51)
  have d7 := cell_alloc c7 (.cells #[.int .i64 0, .int .i64 0, .int .i64 0, .int .i64 0, .int .i64 0] 51)
  clear h
  go_enter Tryd.func94, Tryd.ntmps94
  go_wp2_with fail
  go_quiet (fail)
  go_wp2_with fail
  go_region
  go_wp2_with fail
  rw [or4, wrap_n4, IntWalk.wrap64_in _ (by have := n4_range x4 x5 x6 x7; omega)]
  exact bodyPost_ret (v := insV (insOf x0 x1 x2 x3 x4 x5 x6 x7)) (by simp [results, Tryd.results94, go_sem, insOf]) rfl ⟨rfl, below_set5 (below_drewN ((Below.refl _ _).alloc (Nat.le_refl _) _) _) (Nat.le_refl _) _ _ _ _ _⟩
end Go.Proofs.YtfkhfjefddgkoaaDoor.Cod
