/-
  The bytes of an instruction: the program's and the document's.
-/
import Derived.Test.YtoebboimdkogpaaDoorF
namespace Go.Proofs.YtoebboimdkogpaaDoor
open Go.RowKit

def u8i (n : Int) : UInt8 := UInt8.ofNat (n % 256).toNat
theorem u8i_val (n : Int) : ((u8i n).toNat : Int) = n % 256 := by
  have h1 : 0 ≤ n % 256 := Int.emod_nonneg _ (by decide)
  have h2 : n % 256 < 256 := Int.emod_lt_of_pos _ (by decide)
  rw [u8i, UInt8.toNat_ofNat', Nat.mod_eq_of_lt (by omega)]
  omega
abbrev b8 (n : Int) : Value := .int .u8 ((u8i n).toNat : Int)
/-- The bytes of an instruction. -/
def bytesOf (i : Ins) : Str := [u8i i.op, u8i i.a, u8i i.b, u8i i.c, u8i i.n, u8i (i.n % 4294967296 / 256), u8i (i.n % 4294967296 / 65536), u8i (i.n % 4294967296 / 16777216)]
def cells (l : Str) : List Value := l.map fun b => .int .u8 (b.toNat : Int)
theorem cells_len (l : Str) : (cells l).length = l.length := by simp [cells]
theorem cells_one (l : Str) : ∀ u ∈ cells l, u.oneCell' = true := by
  intro u hu
  obtain ⟨b, _, rfl⟩ := List.mem_map.1 hu
  rfl
theorem cells_app (l m : Str) : cells (l ++ m) = cells l ++ cells m := by simp [cells]
theorem Tryd.info_u8 : (Tryd.prog.info? 5).map (fun i => (i.zero, i.size, i.bytes)) = some (some (.int .u8 0), 1, 1) := by kernel_rfl
theorem cells_new (w : World) (cs : List Value) (t : TypeId) : ∀ j u, cs[j]? = some u → (w.alloc (.cells cs.toArray t)).cell? ((⟨w.heap.size, 0, none⟩ : Addr).add j) = some u := by
  intro j u hj
  rw [plainAdd, Nat.zero_add, cell_of_row _ _ j _ _ _ (heap_alloc_new w _)]
  simpa using hj

/-- The bytes as they are reckoned. -/
def vals8 (op a b c m : Int) : List Value := [.int .u8 (op % 256), .int .u8 (a % 256), .int .u8 (b % 256), .int .u8 (c % 256), .int .u8 (m % 256), .int .u8 (m % 4294967296 / 256 % 256), .int .u8 (m % 4294967296 / 65536 % 256), .int .u8 (m % 4294967296 / 16777216)]
theorem vals8_eq (i : Ins) : vals8 i.op i.a i.b i.c i.n = cells (bytesOf i) := by
  have h : i.n % 4294967296 / 16777216 % 256 = i.n % 4294967296 / 16777216 := by omega
  simp only [vals8, cells, bytesOf, List.map_cons, List.map_nil, u8i_val, h]

set_option maxRecDepth 100000 in
theorem appendBytes_any (B n : Nat) (v : Value) (xs : List Value) (i : Ins) (w : World) (hown : w.ownsRow B 5 1 v n xs) (hB : B ≤ w.heap.size) (hn : n + 8 ≤ 140737488355328) :
    Calls Tryd.prog 27 #[v, insV i] w fun e w' => ∃ v', e = .returned v' ∧ w'.ownsRow B 5 1 v' (n + 8) (xs ++ cells (bytesOf i)) ∧ Below B w w' := by
  obtain ⟨i0, hi, hz0, hz1, hz2⟩ := info_parts Tryd.info_u8
  obtain ⟨A, c0, rfl⟩ := own_slice hown
  rw [← vals8_eq]
  obtain ⟨op, a, b, c, m⟩ := i
  have ho2 := (hown.alloc (.cells #[.int .i64 op, .int .i64 a, .int .i64 b, .int .i64 c, .int .i64 m] 35)).alloc (.cells (vals8 op a b c m).toArray 5)
  have hs2 : Src ((w.alloc (.cells #[.int .i64 op, .int .i64 a, .int .i64 b, .int .i64 c, .int .i64 m] 35)).alloc (.cells (vals8 op a b c m).toArray 5)) (fun _ => True) (some ⟨w.heap.size + 1, 0, none⟩) 8 8 (vals8 op a b c m) :=
    ⟨rfl, (by intro h; cases h), Nat.le_refl _, (by intro _ _ _; trivial), fun ad ha j u hu => by
      cases ha
      have := cells_new (w.alloc (.cells #[.int .i64 op, .int .i64 a, .int .i64 b, .int .i64 c, .int .i64 m] 35)) (vals8 op a b c m) 5 j u hu
      simpa using this⟩
  have hb2 : Below B w ((w.alloc (.cells #[.int .i64 op, .int .i64 a, .int .i64 b, .int .i64 c, .int .i64 m] 35)).alloc (.cells (vals8 op a b c m).toArray 5)) := ((Below.refl B w).alloc hB _).alloc (by simp; omega) _
  have hsz : B ≤ ((w.alloc (.cells #[.int .i64 op, .int .i64 a, .int .i64 b, .int .i64 c, .int .i64 m] 35)).alloc (.cells (vals8 op a b c m).toArray 5)).heap.size := by simp; omega
  have h1 : ∀ u ∈ vals8 op a b c m, u.oneCell' = true := by
    intro u hu
    simp [vals8] at hu
    rcases hu with rfl | rfl | rfl | rfl | rfl | rfl | rfl | rfl <;> rfl
  have m1 : n + 8 ≤ maxLen := by simp only [maxLen]; omega
  have m2 : (n + 8) * 1 ≤ 140737488355328 := by omega
  have HO2 := Lib.hid ho2
  have HS2 := Lib.hid hs2
  have HB2 := Lib.hid hb2
  have HSZ := Lib.hid hsz
  have H1 := Lib.hid h1
  have HBB := Lib.hid hB
  have hrow := Lib.hid hown.lt
  clear ho2 hs2 hb2 hsz h1 hB hown
  go_enter Tryd.func27, Tryd.ntmps27
  go_wp2_with (at_builtin; refine wpList_append_src rfl (.tmp 9) (.tmp 33) _ rfl B 5 i0 _ 1 Tryd.underlying24 hi hz0 hz1 hz2 rfl (.slice A n c0) n xs rfl HO2.out _ _ 8 8 (vals8 op a b c m) rfl HS2.out H1.out m1 m2 HSZ.out ?_; intro v' w1 hown' hg hat)
  go_ret
  exact ⟨_, rfl, hown', HB2.out.grown hg HSZ.out (fun k hk => (hrow.out k hk).1)⟩

set_option maxRecDepth 100000 in
theorem rbytes_any (i : Ins) (w : World) (h : mayB i = true) :
    Calls Tryd.prog 28 #[insV i] w fun e w' => e = .returned (.slice (some ⟨w.heap.size + 1, 0, none⟩) 8 8) ∧ Below w.heap.size w w' ∧ Src w' (fun _ => True) (some ⟨w.heap.size + 1, 0, none⟩) 8 8 (cells (bytesOf i)) := by
  have hm : -2147483648 ≤ i.n ∧ i.n ≤ 2147483647 := by
    unfold mayB at h
    split at h
    · cases h
    · rw [Bool.and_eq_true] at h
      have h2 := h.2
      unfold numOk at h2
      split at h2
      · simpa using h2
      · have : i.n = 0 := by simpa using h2
        omega
  rw [← vals8_eq]
  obtain ⟨op, a, b, c, m⟩ := i
  simp only at hm
  have fin : ∀ l : List Value, l = vals8 op a b c m →
      Below w.heap.size w ((w.alloc (.cells #[.int .i64 op, .int .i64 a, .int .i64 b, .int .i64 c, .int .i64 m] 35)).alloc (.cells l.toArray 5)) ∧ Src ((w.alloc (.cells #[.int .i64 op, .int .i64 a, .int .i64 b, .int .i64 c, .int .i64 m] 35)).alloc (.cells l.toArray 5)) (fun _ => True) (some ⟨w.heap.size + 1, 0, none⟩) 8 8 (vals8 op a b c m) := by
    rintro l rfl
    exact ⟨((Below.refl _ w).alloc (Nat.le_refl _) _).alloc (by simp) _, rfl, (by intro h; cases h), Nat.le_refl _, (by intro _ _ _; trivial), fun ad ha j u hu => by
      cases ha
      have := cells_new (w.alloc (.cells #[.int .i64 op, .int .i64 a, .int .i64 b, .int .i64 c, .int .i64 m] 35)) (vals8 op a b c m) 5 j u hu
      simpa using this⟩
  by_cases h0 : m < 0
  · have e1 : wrap64 (m + 4294967296) = m + 4294967296 := IntWalk.wrap64_in _ (by omega)
    have q : (m + 4294967296) % 4294967296 = m + 4294967296 := by omega
    have FIN := Lib.hid (fin _ (show [.int .u8 (op % 256), .int .u8 (a % 256), .int .u8 (b % 256), .int .u8 (c % 256), .int .u8 ((wrap64 (m + 4294967296)).tmod 256 % 256), .int .u8 ((wrap64 ((wrap64 (m + 4294967296)).tdiv 256)).tmod 256 % 256), .int .u8 ((wrap64 ((wrap64 (m + 4294967296)).tdiv 65536)).tmod 256 % 256), .int .u8 (wrap64 ((wrap64 (m + 4294967296)).tdiv 16777216) % 256)] = vals8 op a b c m by
      have t1 : (m + 4294967296).tdiv 256 = (m + 4294967296) / 256 := Int.tdiv_eq_ediv_of_nonneg (by omega)
      have t2 : (m + 4294967296).tdiv 65536 = (m + 4294967296) / 65536 := Int.tdiv_eq_ediv_of_nonneg (by omega)
      have t3 : (m + 4294967296).tdiv 16777216 = (m + 4294967296) / 16777216 := Int.tdiv_eq_ediv_of_nonneg (by omega)
      have w1 : wrap64 ((m + 4294967296) / 256) = (m + 4294967296) / 256 := IntWalk.wrap64_in _ (by omega)
      have w2 : wrap64 ((m + 4294967296) / 65536) = (m + 4294967296) / 65536 := IntWalk.wrap64_in _ (by omega)
      have w3 : wrap64 ((m + 4294967296) / 16777216) = (m + 4294967296) / 16777216 := IntWalk.wrap64_in _ (by omega)
      have r0 : (m + 4294967296).tmod 256 = (m + 4294967296) % 256 := Int.tmod_eq_emod_of_nonneg (by omega)
      have r1 : ((m + 4294967296) / 256).tmod 256 = (m + 4294967296) / 256 % 256 := Int.tmod_eq_emod_of_nonneg (by omega)
      have r2 : ((m + 4294967296) / 65536).tmod 256 = (m + 4294967296) / 65536 % 256 := Int.tmod_eq_emod_of_nonneg (by omega)
      have mq : m % 4294967296 = m + 4294967296 := by omega
      have z0 : (m + 4294967296) % 256 % 256 = m % 256 := by omega
      have z1 : (m + 4294967296) / 256 % 256 % 256 = (m + 4294967296) / 256 % 256 := by omega
      have z2 : (m + 4294967296) / 65536 % 256 % 256 = (m + 4294967296) / 65536 % 256 := by omega
      have z3 : (m + 4294967296) / 16777216 % 256 = (m + 4294967296) / 16777216 := by omega
      simp only [vals8, e1, t1, t2, t3, w1, w2, w3, r0, r1, r2, mq, z0, z1, z2, z3]))
    clear fin q hm
    clear e1
    go_enter Tryd.func28, Tryd.ntmps28
    go_wp2
    go_ret
    exact ⟨rfl, FIN.out⟩
  · have FIN := Lib.hid (fin _ (show [.int .u8 (op % 256), .int .u8 (a % 256), .int .u8 (b % 256), .int .u8 (c % 256), .int .u8 (m % 256), .int .u8 ((wrap64 (m.tdiv 256)).tmod 256 % 256), .int .u8 ((wrap64 (m.tdiv 65536)).tmod 256 % 256), .int .u8 (wrap64 (m.tdiv 16777216) % 256)] = vals8 op a b c m by
      have t1 : m.tdiv 256 = m / 256 := Int.tdiv_eq_ediv_of_nonneg (by omega)
      have t2 : m.tdiv 65536 = m / 65536 := Int.tdiv_eq_ediv_of_nonneg (by omega)
      have t3 : m.tdiv 16777216 = m / 16777216 := Int.tdiv_eq_ediv_of_nonneg (by omega)
      have w1 : wrap64 (m / 256) = m / 256 := IntWalk.wrap64_in _ (by omega)
      have w2 : wrap64 (m / 65536) = m / 65536 := IntWalk.wrap64_in _ (by omega)
      have w3 : wrap64 (m / 16777216) = m / 16777216 := IntWalk.wrap64_in _ (by omega)
      have r1 : (m / 256).tmod 256 = m / 256 % 256 := Int.tmod_eq_emod_of_nonneg (by omega)
      have r2 : (m / 65536).tmod 256 = m / 65536 % 256 := Int.tmod_eq_emod_of_nonneg (by omega)
      have mq : m % 4294967296 = m := by omega
      have z1 : m / 256 % 256 % 256 = m / 256 % 256 := by omega
      have z2 : m / 65536 % 256 % 256 = m / 65536 % 256 := by omega
      have z3 : m / 16777216 % 256 = m / 16777216 := by omega
      simp only [vals8, t1, t2, t3, w1, w2, w3, r1, r2, mq, z1, z2, z3]))
    have h00 : 0 ≤ m := by omega
    clear fin hm
    go_enter Tryd.func28, Tryd.ntmps28
    go_wp2
    go_ret
    exact ⟨rfl, FIN.out⟩
end Go.Proofs.YtoebboimdkogpaaDoor
