/- A part of the proof. -/
import Derived.Test.YtfljignkjmabpaaGreatZCZd
import Derived.Test.YtfljignkjmabpaaGreatZTI
set_option linter.unusedSimpArgs false
set_option linter.unusedVariables false
namespace Go.Proofs.YtfljignkjmabpaaGreat
set_option maxRecDepth 100000
open Go.RowKit
theorem val_i64 (l : List UInt8) : I64 (val l) := by unfold val I64 wrap64; omega
theorem rNum_i64 (size : Int) (s : St) : I64 (rNum size s).1 := by
 unfold rNum
 split
 ·
  exact val_i64 _
 ·
  unfold I64; simp
theorem val_digs' (n : Int) (size : Nat) (hs : sized size = true) (hf : fitB size n = true) (hi : I64 n) : val (digs n size) = n := by
 have hs' : size = 1 ∨ size = 2 ∨ size = 4 ∨ size = 8 := by simp only [sized, decide_eq_true_eq] at hs; omega
 have d0 := dig_val n 0
 have d1 := dig_val n 1
 have d2 := dig_val n 2
 have d3 := dig_val n 3
 have d4 := dig_val n 4
 have d5 := dig_val n 5
 have d6 := dig_val n 6
 have d7 := dig_val n 7
 simp only [Nat.mul_zero, Nat.reduceMul, Int.reducePow] at d0 d1 d2 d3 d4 d5 d6 d7
 unfold I64 at hi
 rcases hs' with rfl | rfl | rfl | rfl
 ·
  simp [fitB] at hf
  simp only [digs, show List.range 1 = [0] from rfl, List.map, val, valN, wrap64]
  omega
 ·
  simp [fitB] at hf
  simp only [digs, show List.range 2 = [0, 1] from rfl, List.map, val, valN, wrap64]
  omega
 ·
  simp [fitB] at hf
  simp only [digs, show List.range 4 = [0, 1, 2, 3] from rfl, List.map, val, valN, wrap64]
  omega
 ·
  simp only [digs, show List.range 8 = [0, 1, 2, 3, 4, 5, 6, 7] from rfl, List.map, val, valN, wrap64]
  omega
theorem rTake_app' (n : Nat) (l rest : List UInt8) (h : l.length = n) : rTake n (0, l ++ rest) = (l, (0, rest)) := by
 subst h
 unfold rTake
 simp
theorem rNum_back' (n : Int) (size : Nat) (rest : List UInt8) (hs : sized size = true) (hf : fitB size n = true) (hi : I64 n) : rNum size (0, digs n size ++ rest) = (n, (0, rest)) := by
 have h := val_digs' n size hs hf hi
 unfold rNum
 rw [if_pos hs, Int.toNat_natCast, rTake_app' size _ rest (digs_len n size)]
 show (val (digs n size), ((0, rest) : St)) = _
 rw [h]
def encNums (size : Nat) (ns : List Int) : List UInt8 := ns.flatMap fun n => digs n size
def encText (size : Nat) (l : List UInt8) : List UInt8 := digs l.length size ++ l
def encTexts (ss : List (List UInt8)) : List UInt8 := ss.flatMap (encText 2)
theorem len_digs (size most : Nat) (l : List UInt8) (hs : sized size = true) (h4 : size ≤ 4) (hf : ∀ k : Nat, k ≤ most → fitB size k = true) (hm : most ≤ 1048576) (hl : l.length ≤ most) : valN (digs l.length size) = l.length := by
 have h1 := val_digs' (l.length : Int) size hs (hf _ hl) (by unfold I64; omega)
 have h2 := val_small (digs l.length size) (by rw [digs_len]; exact h4)
 rw [h1] at h2
 omega
theorem rMeas_back (size most : Nat) (l rest : List UInt8) (hs : sized size = true) (h4 : size ≤ 4) (hf : ∀ k : Nat, k ≤ most → fitB size k = true) (hm : most ≤ 1048576) (hl : l.length ≤ most) :
  rMeas size most (0, encText size l ++ rest) = (l, (0, rest)) := by
 have hd := digs_len (l.length : Int) size
 have hv := len_digs size most l hs h4 hf hm hl
 have e : encText size l ++ rest = digs l.length size ++ (l ++ rest) := by simp [encText]
 have ht : (digs l.length size ++ (l ++ rest)).take size = digs l.length size := List.take_left' hd
 have hdr : (digs l.length size ++ (l ++ rest)).drop size = l ++ rest := List.drop_left' hd
 unfold rMeas
 rw [e]
 simp only [ht, hdr, hv, if_true, List.length_append, hd]
 rw [if_neg (by omega), if_neg (by omega), if_neg (by omega), List.take_left' rfl, List.drop_left' rfl]
theorem wMeas_ok (size most : Nat) (l bs : List UInt8) (h : (wMeas size most l (0, bs)).1 = 0) : wMeas size most l (0, bs) = (0, bs ++ encText size l) ∧ l.length ≤ most := by
 by_cases hl : l.length ≤ most
 ·
  exact ⟨by simp [wMeas, hl, encText], hl⟩
 ·
  simp [wMeas, hl] at h
theorem rNum_stick (size : Int) (s : St) (h : s.1 ≠ 0) : (rNum size s).2 = s := by
 unfold rNum
 split
 ·
  show (rTake size.toNat s).2 = s
  simp [rTake, h]
 ·
  simp
theorem rMeas_stick (size most : Nat) (s : St) (h : s.1 ≠ 0) : (rMeas size most s).2 = s := by simp [rMeas, h]
theorem valN_div (l : List UInt8) : ∀ (i : Nat) (h : i < l.length), valN l / 256 ^ i % 256 = l[i].toNat := by
 induction l with
 | nil => intro i h; simp at h
 | cons b l ih =>
  intro i h
  have hb := b.toNat_lt
  cases i with
  | zero =>
   simp only [valN, Nat.pow_zero, Nat.div_one, List.getElem_cons_zero]
   omega
  | succ i =>
   have e : valN (b :: l) / 256 ^ (i + 1) = valN l / 256 ^ i := by
    rw [Nat.pow_succ, Nat.mul_comm, ← Nat.div_div_eq_div_mul]
    congr 1
    simp only [valN]
    omega
   rw [e, List.getElem_cons_succ]
   exact ih i (by simpa using h)
theorem wrap_div (x : Int) (i : Nat) (h : i < 8) : wrap64 x / 2 ^ (8 * i) % 256 = x / 2 ^ (8 * i) % 256 := by
 have h' : i = 0 ∨ i = 1 ∨ i = 2 ∨ i = 3 ∨ i = 4 ∨ i = 5 ∨ i = 6 ∨ i = 7 := by omega
 unfold wrap64
 rcases h' with rfl | rfl | rfl | rfl | rfl | rfl | rfl | rfl
 all_goals
  simp only [Nat.mul_zero, Nat.reduceMul, Int.reducePow]
  omega
theorem dig_of_val (l : List UInt8) (i : Nat) (h : i < l.length) (h8 : i < 8) : dig (val l) i = l[i] := by
 have h1 := dig_val (val l) i
 unfold val at h1
 rw [wrap_div _ i h8] at h1
 have hp : (2 : Int) ^ (8 * i) = ((256 ^ i : Nat) : Int) := by
  rw [show (256 : Nat) = 2 ^ 8 from rfl, ← Nat.pow_mul]
  simp
 rw [hp] at h1
 have h2 := valN_div l i h
 have h3 : ((valN l : Int) / ((256 ^ i : Nat) : Int)) % 256 = ((valN l / 256 ^ i % 256 : Nat) : Int) := by
  rw [Int.natCast_emod, Int.natCast_ediv]
  rfl
 rw [h3, h2] at h1
 exact UInt8.toNat_inj.1 (by show (dig (wrap64 (valN l)) i).toNat = _; omega)
theorem digs_val (l : List UInt8) (size : Nat) (hs : sized size = true) (hl : l.length = size) : digs (val l) size = l ∧ fitB size (val l) = true := by
 have hs' : size = 1 ∨ size = 2 ∨ size = 4 ∨ size = 8 := by simp only [sized, decide_eq_true_eq] at hs; omega
 constructor
 ·
  refine List.ext_getElem (by rw [digs_len, hl]) fun i h1 h2 => ?_
  have hi : i < 8 := by omega
  have e : (digs (val l) size)[i] = dig (val l) i := by simp [digs]
  rw [e]
  exact dig_of_val l i h2 hi
 ·
  have h1 := valN_lt l
  rw [hl] at h1
  rcases hs' with rfl | rfl | rfl | rfl
  ·
   rw [val_small l (by omega)]
   simp at h1
   simp [fitB]
   omega
  ·
   rw [val_small l (by omega)]
   simp at h1
   simp [fitB]
   omega
  ·
   rw [val_small l (by omega)]
   simp at h1
   simp [fitB]
   omega
  ·
   simp [fitB]
theorem num_form (size : Int) (s : St) (bs : List UInt8) (h : (rNum size s).2.1 = 0) : ∃ d, s.2 = d ++ (rNum size s).2.2 ∧ wNumsA size [(rNum size s).1] (0, bs) = (0, bs ++ d) := by
 by_cases hs : sized size = true
 ·
  obtain ⟨k, rfl⟩ : ∃ k : Nat, size = k := ⟨size.toNat, by simp only [sized, decide_eq_true_eq] at hs; omega⟩
  unfold rNum at h ⊢
  rw [if_pos hs, Int.toNat_natCast] at h ⊢
  simp only at h ⊢
  unfold rTake at h ⊢
  by_cases h0 : s.1 = 0
  ·
   rw [if_pos h0] at h ⊢
   by_cases h1 : k ≤ s.2.length
   ·
    rw [if_pos h1] at h ⊢
    obtain ⟨e1, e2⟩ := digs_val (s.2.take k) k hs (by rw [List.length_take]; omega)
    refine ⟨s.2.take k, (List.take_append_drop k s.2).symm, ?_⟩
    unfold wNumsA
    rw [if_pos hs, Int.toNat_natCast]
    show wNum1 k (val (s.2.take k)) (0, bs) = _
    unfold wNum1
    rw [if_pos rfl, if_pos e2, e1]
   ·
    rw [if_neg h1] at h
    exact absurd h (show ¬ (11 : Int) = 0 by decide)
  ·
   rw [if_neg h0] at h
   exact absurd h h0
 ·
  unfold rNum at h
  rw [if_neg hs] at h
  by_cases h0 : s.1 = 0
  ·
   rw [if_pos h0] at h
   exact absurd h (show ¬ (1 : Int) = 0 by decide)
  ·
   rw [if_neg h0] at h
   exact absurd h h0
theorem meas_form (size most : Nat) (s : St) (bs : List UInt8) (hs : sized size = true) (h4 : size ≤ 4) (h : (rMeas size most s).2.1 = 0) :
  ∃ d, s.2 = d ++ (rMeas size most s).2.2 ∧ wMeas size most (rMeas size most s).1 (0, bs) = (0, bs ++ d) ∧ d.length = size + (rMeas size most s).1.length := by
 unfold rMeas at h ⊢
 by_cases h0 : s.1 = 0
 ·
  rw [if_pos h0] at h ⊢
  by_cases h1 : s.2.length < size
  ·
   rw [if_pos h1] at h
   exact absurd h (show ¬ (11 : Int) = 0 by decide)
  rw [if_neg h1] at h ⊢
  by_cases h2 : most < valN (s.2.take size)
  ·
   rw [if_pos h2] at h
   exact absurd h (show ¬ (2 : Int) = 0 by decide)
  rw [if_neg h2] at h ⊢
  by_cases h3 : s.2.length - size < valN (s.2.take size)
  ·
   rw [if_pos h3] at h
   exact absurd h (show ¬ (11 : Int) = 0 by decide)
  rw [if_neg h3] at h ⊢
  have htl : (s.2.take size).length = size := by rw [List.length_take]; omega
  obtain ⟨e1, _⟩ := digs_val (s.2.take size) size hs htl
  have e2 := val_small (s.2.take size) (by omega)
  rw [e2] at e1
  generalize hN : valN (s.2.take size) = N at *
  have hl : ((s.2.drop size).take N).length = N := by rw [List.length_take, List.length_drop]; omega
  refine ⟨s.2.take size ++ (s.2.drop size).take N, ?_, ?_, ?_⟩
  ·
   show s.2 = _ ++ (s.2.drop size).drop N
   rw [List.append_assoc, List.take_append_drop, List.take_append_drop]
  ·
   show wMeas size most ((s.2.drop size).take N) (0, bs) = _
   unfold wMeas
   rw [if_pos rfl, if_pos (by rw [hl]; omega), hl, e1, List.append_assoc]
  ·
   show (s.2.take size ++ (s.2.drop size).take N).length = size + ((s.2.drop size).take N).length
   rw [List.length_append, htl]
 ·
  rw [if_neg h0] at h
  exact absurd h h0
end Go.Proofs.YtfljignkjmabpaaGreat
namespace Go.Proofs.YtfljignkjmabpaaGreat.Siv
set_option maxRecDepth 100000
open Go.RowKit
def hit (s n : Nat) (hs : List UInt32) (i t : Nat) : Bool := hs.any fun h => idx n h == i && (msk s h).toNat.testBit t
end Go.Proofs.YtfljignkjmabpaaGreat.Siv
namespace Go.Proofs.YtfljignkjmabpaaGreat
open Go.RowKit
def sumF (f : Nat → List Int) : Nat → Nat
 | 0 => 0
 | m + 1 => sumF f m + (f m).length
theorem inB_at {ss : List Sym} {cnt b k : Nat} (hk : k < ss.length) : inB ss cnt b k = (seenB ss[k] && (bkt (hashS ss[k].name) cnt == b)) := by simp [inB, hk]
theorem sum_succ (ss : List Sym) (cnt k : Nat) (hk : k < ss.length) : ∀ m, sumF (fillS ss cnt (k + 1)) m = sumF (fillS ss cnt k) m + (if seenB ss[k] = true ∧ bkt (hashS ss[k].name) cnt < m then 1 else 0)
 | 0 => by simp [sumF]
 | m + 1 => by
  rw [sumF, sumF, sum_succ ss cnt k hk m, fill_succ, List.length_append, inB_at hk]
  generalize bkt (hashS ss[k].name) cnt = b
  cases hs : seenB ss[k]
  ·
   simp
  ·
   simp only [Bool.true_and, true_and, beq_iff_eq]
   by_cases h1 : b = m
   ·
    subst h1
    simp
    omega
   ·
    by_cases h2 : b < m
    ·
     rw [if_pos h2, if_neg h1, if_pos (by omega)]
     simp
     omega
    ·
     rw [if_neg h2, if_neg h1, if_neg (by omega)]
     simp
theorem sum_all (ss : List Sym) (cnt : Nat) (h0 : 0 < cnt) : ∀ k, k ≤ ss.length → sumF (fillS ss cnt k) cnt = (hashesS (ss.take k)).length
 | 0, _ => by
  have : ∀ m, sumF (fillS ss cnt 0) m = 0 := by
   intro m
   induction m with
   | zero => rfl
   | succ m ih => rw [sumF, ih]; rfl
  rw [this]
  rfl
 | k + 1, hk => by
  have hkl : k < ss.length := by omega
  rw [sum_succ ss cnt k hkl, sum_all ss cnt h0 k (by omega), hashes_take hkl, List.length_append]
  have hb := bkt_lt (hashS ss[k].name) h0
  cases hs : seenB ss[k]
  ·
   simp
  ·
   simp [hb]
def mAt (r : Sym) (ss : List Sym) (v : Bool) (x : Int) : Bool := match ss[x.toNat]? with
 | some d => matchB r d v
 | none => false
theorem fill_mem {ss : List Sym} {cnt k b : Nat} {x : Int} : x ∈ fillS ss cnt k b ↔ ∃ j : Nat, x = (j : Int) ∧ j < k ∧ inB ss cnt b j = true := by
 unfold fillS
 simp only [List.mem_map, List.mem_filter, List.mem_range]
 constructor
 ·
  rintro ⟨j, ⟨h1, h2⟩, rfl⟩
  exact ⟨j, rfl, h1, h2⟩
 ·
  rintro ⟨j, rfl, h1, h2⟩
  exact ⟨j, ⟨h1, h2⟩, rfl⟩
theorem fill_sorted (ss : List Sym) (cnt k b : Nat) : (fillS ss cnt k b).Pairwise (· < ·) := by
 unfold fillS
 rw [List.pairwise_map]
 refine List.Pairwise.imp ?_ (List.pairwise_lt_range.filter (inB ss cnt b))
 intro a b h
 omega
def firstS (r : Sym) (ss : List Sym) : Int := match ss.findIdx? (fun d => matchB r d (ss.any vdB)) with
 | some i => (i : Int)
 | none => -1
theorem hash_mem {ss : List Sym} {j : Nat} (hj : j < ss.length) (h : seenB ss[j] = true) : hashS ss[j].name ∈ hashesS ss := by
 unfold hashesS
 exact List.mem_map.2 ⟨ss[j], List.mem_filter.2 ⟨List.getElem_mem hj, h⟩, rfl⟩
end Go.Proofs.YtfljignkjmabpaaGreat
namespace Go.Proofs.YtfljignkjmabpaaGreat
set_option maxRecDepth 100000
open Go.ChangeShapes Go.WideShapes Go.ChangeAt Go.RowKit Go.Deep
section
variable {H : Type} {enc : TypeId × Value → H} {W : World}
end
end Go.Proofs.YtfljignkjmabpaaGreat
namespace Go.Proofs.YtfljignkjmabpaaGreat
set_option maxRecDepth 100000
open Go.RowKit
end Go.Proofs.YtfljignkjmabpaaGreat
namespace Go.Proofs.YtfljignkjmabpaaGreat
set_option maxRecDepth 100000
open Go.RowKit
theorem tab_box (w : World) (cs : Array Value) : Below w.heap.size w (w.alloc (.cells cs 35)) ∧ Tx (w.alloc (.cells cs 35)) w.heap.size cs := ⟨(Below.refl _ _).alloc (Nat.le_refl _) _, heap_alloc_new _ _⟩
theorem Tx.below {w w' : World} {b : Nat} {cs : Array Value} (h : Tx w b cs) (hb : Below w.heap.size w w') : Tx w' b cs := (hb.block b (by
 cases hg : w.heap[b]? with
 | none => rw [Tx, hg] at h; cases h
 | some o => exact (Array.getElem?_eq_some_iff.1 hg).1)).trans h
end Go.Proofs.YtfljignkjmabpaaGreat
namespace Go.Proofs.YtfljignkjmabpaaGreat
set_option maxRecDepth 100000
open Go.RowKit
def seenAt (ss : List Sym) (i : Nat) : Bool := match ss[i]? with
 | some s => seenB s
 | none => false
theorem seenAt_at {ss : List Sym} {k : Nat} (hk : k < ss.length) : seenAt ss k = seenB ss[k] := by simp [seenAt, hk]
def seenL (ss : List Sym) (k : Nat) : List Int := ((List.range k).filter (seenAt ss)).map fun (i : Nat) => (i : Int)
theorem seen_succ (ss : List Sym) (k : Nat) : seenL ss (k + 1) = seenL ss k ++ (if seenAt ss k = true then [(k : Int)] else []) := by
 unfold seenL
 rw [List.range_succ, List.filter_append, List.map_append]
 congr 1
 by_cases h : seenAt ss k = true
 ·
  simp [h]
 ·
  simp [h]
theorem seen_len (ss : List Sym) (k : Nat) : (seenL ss k).length ≤ k := by
 unfold seenL
 rw [List.length_map]
 have := List.length_filter_le (seenAt ss) (List.range k)
 simpa using this
theorem seen_hashes (ss : List Sym) : ∀ k, k ≤ ss.length → (seenL ss k).length = (hashesS (ss.take k)).length
 | 0, _ => rfl
 | k + 1, hk => by
  have hkl : k < ss.length := by omega
  rw [seen_succ, hashes_take hkl, List.length_append, List.length_append, seen_hashes ss k (by omega), seenAt_at hkl]
  cases seenB ss[k] <;> simp
set_option maxHeartbeats 4000000 in
theorem qseen_any (A : Option Addr) (n c : Nat) (ss : List Sym) (w : World) (h : Syl w (fun k => k < w.heap.size) A n c ss) (hn : n ≤ 512) :
  Calls Tryz.prog 94 #[.slice A n c] w fun e w' => ∃ A' c', e = .returned (.slice A' (seenL ss n).length c') ∧ w'.ownsRow w.heap.size 3 1 (.slice A' (seenL ss n).length c') (seenL ss n).length (il (seenL ss n)) ∧ Below w.heap.size w w' := by
 obtain rfl := h.len
 have H := hD h
 clear h
 go_enter Tryz.func94, Tryz.ntmps94
 go_upto_region 3 with (fail)
 go_loopw [3, 4] (fun v t wr => ∃ (k : Nat) (A' : Option Addr) (m c' : Nat) (l : List Int), k ≤ ss.length ∧ t = .int .i64 k ∧ v = .slice A' m c' ∧ l = seenL ss k ∧ l.length = m ∧ m ≤ k ∧ wr.ownsRow w.heap.size 3 1 (.slice A' m c') m (il l) ∧ Below w.heap.size w wr) (fun _ t _ => ss.length - (intOf t).toNat)
 case atStart => exact ⟨0, none, 0, 0, [], Nat.zero_le _, rfl, rfl, rfl, rfl, Nat.le_refl _, World.ownsRow_nil _ _ _ _, Below.refl _ _⟩
 case round =>
  obtain ⟨k, A', m, c', l, hk, rfl, rfl, hl, hm, hmk, ho, hb⟩ := hrel
  have HB := hD hb
  have HO := hD ho
  have HL := hD hl
  have HM := hD hm
  clear hb ho hl hm
  by_cases hki : k < ss.length
  ·
   obtain ⟨ad, rfl⟩ : ∃ ad, A = some ad := by
    cases A with
    | none => have := (H.out.nil rfl).1; omega
    | some ad => exact ⟨ad, rfl⟩
   obtain ⟨b, o, rfl⟩ := H.out.plain (by omega)
   have hcap := H.out.cap
   obtain ⟨c0, c1, c2, c3, c4, c5, c6, c7, c8⟩ := (H.out.below HB.out (fun _ h => h)).get k hki
   have HSU := hD (show seenL ss (k + 1) = seenL ss k ++ (if seenB ss[k] = true then [(k : Int)] else []) by rw [seen_succ, seenAt_at hki])
   generalize ss[k] = s at *
   have HSE := hD (fun X => rseen_any s X)
   generalize seenB s = se at *
   cases se
   ·
    have HN := hD (show l = seenL ss (k + 1) by rw [HSU.out, HL.out]; simp)
    go_upto_region 6 with (go_at_call 160; refine (HSE.out _).mono ?_; rintro e w2 ⟨rfl, hb2⟩; have HB2 := hD (HB.out.trans (hb2.mono HB.out.size)); have HO2 := hD (Siv.own_below HO.out hb2); clear hb2)
    clear c0 c1 c2 c3 c4 c5 c6 c7 c8 HSE
    go_wp2_with fail
    go_roundw
    case rel => exact ⟨k + 1, A', m, c', l, by omega, by go_num, rfl, HN.out, HM.out, by omega, HO2.out, HB2.out⟩
    case measure => simp [intOf]; omega
   ·
    have HN := hD (show l ++ [(k : Int)] = seenL ss (k + 1) by rw [HSU.out, HL.out]; simp)
    go_upto_region 6 with (go_at_call 160; refine (HSE.out _).mono ?_; rintro e w2 ⟨rfl, hb2⟩; have HB2 := hD (HB.out.trans (hb2.mono HB.out.size)); have HO2 := hD (Siv.own_below HO.out hb2); clear hb2)
    clear c0 c1 c2 c3 c4 c5 c6 c7 c8 HSE
    have HCN := hD ((Bx.new w2 #[.int .i64 (k : Int)] 3).c 0)
    have HO3 := hD (own_alloc HO2.out (.cells #[.int .i64 (k : Int)] 3))
    have HB3 := hD (HB2.out.alloc HB2.out.size (.cells #[.int .i64 (k : Int)] 3))
    have m1 : m + 1 ≤ maxLen := by simp only [maxLen]; omega
    have m2 : (m + 1) * 8 ≤ 140737488355328 := by omega
    have hil : il l ++ [.int .i64 (k : Int)] = il (l ++ [(k : Int)]) := by simp [il]
    have HIL := hD hil
    clear hil
    go_wp2_with (at_builtin; refine append_one rfl (.tmp 16) (.tmp 18) 38 3 (.int .i64 0) 8 rfl Tryz.underlying38 Tryz.info_int rfl w.heap.size A' m c' (il l) rfl HO3.out w2.heap.size (.int .i64 (k : Int)) rfl HCN.out rfl m1 m2 HB3.out.size ?_; intro A2 c2 w4 hown hg; have HO4 := hD hown; have HB4 := hD (below_grown HB3.out hg (fun q hq => (HO3.out.lt q hq).1)); clear hown hg)
    go_roundw
    case rel => exact ⟨k + 1, A2, m + 1, c2, l ++ [(k : Int)], by omega, by go_num, rfl, HN.out, by simp [HM.out], by omega, by rw [← HIL.out]; exact HO4.out, HB4.out⟩
    case measure => simp [intOf]; omega
  ·
   obtain rfl : k = ss.length := by omega
   obtain rfl : l = seenL ss ss.length := HL.out
   obtain rfl : (seenL ss ss.length).length = m := HM.out
   go_wp2_with fail
   first | go_ret | skip
   exact ⟨A', c', rfl, HO.out, HB.out⟩
def cntL (l : List Int) (x : Int) : Nat := (l.filter (· == x)).length
theorem cntL_take {l : List Int} {x : Int} {k : Nat} (hk : k < l.length) : cntL (l.take (k + 1)) x = cntL (l.take k) x + (if l[k] = x then 1 else 0) := by
 unfold cntL
 rw [List.take_succ_eq_append_getElem hk, List.filter_append, List.length_append]
 congr 1
 by_cases h : l[k] = x
 ·
  simp [h]
 ·
  simp [h]
theorem qstands_any {P : Nat → Prop} (A : Option Addr) (c : Nat) (l : List Int) (x : Int) (w : World) (h : Src w P A l.length c (il l)) (hn : l.length ≤ 4611686018427387904) :
  Calls Tryz.prog 147 #[.slice A l.length c, .int .i64 x] w fun e w' => e = .returned (.int .i64 (cntL l x : Int)) ∧ w = w' := by
 have H := hD h
 have hcap := h.cap
 clear h
 go_enter Tryz.func147, Tryz.ntmps147
 go_upto_region 3 with (fail)
 go_loopw [5, 6] (fun v t wr => ∃ k m : Nat, k ≤ l.length ∧ t = .int .i64 k ∧ v = .int .i64 m ∧ m = cntL (l.take k) x ∧ m ≤ k ∧ w = wr) (fun _ t _ => l.length - (intOf t).toNat)
 case atStart => exact ⟨0, 0, Nat.zero_le _, rfl, rfl, rfl, Nat.le_refl _, rfl⟩
 case round =>
  obtain ⟨k, m, hk, rfl, rfl, hm, hmk, rfl⟩ := hrel
  have HM := hD hm
  clear hm
  by_cases hki : k < l.length
  ·
   obtain ⟨ad, rfl⟩ : ∃ ad, A = some ad := by
    cases A with
    | none => have := (H.out.nil rfl).1; omega
    | some ad => exact ⟨ad, rfl⟩
   have hc : w.cell? (ad.add k) = some (.int .i64 l[k]) := H.out.at_ ad rfl k _ (il_get l k hki)
   have HT := hD (cntL_take (x := x) hki)
   generalize l[k] = y at *
   by_cases hyx : y = x
   ·
    have HN := hD (show m + 1 = cntL (l.take (k + 1)) x by rw [HT.out, HM.out, if_pos hyx])
    subst hyx
    clear HT
    go_wp2_with fail
    go_roundw
    case rel => exact ⟨k + 1, m + 1, by omega, by go_num, by go_num, HN.out, by omega, trivial⟩
    case measure => simp [intOf]; omega
   ·
    have HN := hD (show m = cntL (l.take (k + 1)) x by rw [HT.out, HM.out, if_neg hyx]; rfl)
    have hne : (y == x) = false := beq_eq_false_iff_ne.2 hyx
    clear HT
    go_wp2_with fail
    go_roundw
    case rel => exact ⟨k + 1, m, by omega, by go_num, rfl, HN.out, by omega, trivial⟩
    case measure => simp [intOf]; omega
  ·
   obtain rfl : k = l.length := by omega
   have HN := hD (show (m : Int) = (cntL l x : Int) by rw [HM.out, List.take_length])
   go_wp2_with fail
   first | go_ret | skip
   exact ⟨ret_i HN.out, rfl⟩
end Go.Proofs.YtfljignkjmabpaaGreat
namespace Go.Proofs.YtfljignkjmabpaaGreat
set_option maxRecDepth 100000
open Go.RowKit
structure Cp (w w3 : World) (g3 : Nat) (f : Nat → List Int) (Af : Option Addr) (wl cf : Nat) (sh : Int) (wr : World) (k : Nat) (A' : Option Addr) (c' : Nat) (s : Nat → Option Addr × Nat) : Prop where
 bel : Below w.heap.size w wr
 kp : ∀ q, q < w3.heap.size → q ≠ g3 → wr.heap[q]? = w3.heap[q]?
 sz : w3.heap.size ≤ wr.heap.size
 box : Tx wr g3 (tabA A' k c' Af wl cf sh)
 out : wr.ownsRow w3.heap.size 38 1 (.slice A' k c') k (slvs k f s)
 own : ∀ i, i < k → wr.ownsRow w3.heap.size 3 1 (sl (s i) (f i)) (f i).length (il (f i))
section
variable {w w3 wr w' w6 : World} {g3 wl cf k c' : Nat} {f : Nat → List Int} {Af A' : Option Addr} {sh : Int} {s : Nat → Option Addr × Nat}
theorem Cp.grow (h : Cp w w3 g3 f Af wl cf sh wr k A' c' s) (hg3 : g3 < w3.heap.size) (hg : wr.grownBy w' none) : Cp w w3 g3 f Af wl cf sh w' k A' c' s :=
 ⟨h.bel.grown hg h.bel.size (fun q hq => by cases hq), fun q hq hn => (hg.block q (Nat.lt_of_lt_of_le hq h.sz) (by intro e; cases e)).trans (h.kp q hq hn), Nat.le_trans h.sz hg.size,
  (hg.block g3 (Nat.lt_of_lt_of_le hg3 h.sz) (by intro e; cases e)).trans h.box,
  h.out.kept hg (by cases hq : (Value.slice A' k c').ownBlock with
   | none => exact .inl rfl
   | some q => exact .inr fun e => by cases e),
  fun i hi => (h.own i hi).kept hg (by cases hq : (sl (s i) (f i)).ownBlock with
   | none => exact .inl rfl
   | some q => exact .inr fun e => by cases e)⟩
theorem Cp.push (h : Cp w w3 g3 f Af wl cf sh wr k A' c' s) (hg3 : g3 < w3.heap.size) (hw : w.heap.size ≤ g3) {A2 A3 : Option Addr} {c2 c3 : Nat} (hr : wr.ownsRow w3.heap.size 3 1 (.slice A2 (f k).length c2) (f k).length (il (f k)))
  (ho : w6.ownsRow w3.heap.size 38 1 (.slice A3 (k + 1) c3) (k + 1) (slvs k f s ++ [.slice A2 (f k).length c2])) (hg : wr.grownBy w6 (Value.slice A' k c').ownBlock) :
  Cp w w3 g3 f Af wl cf sh (w6.setCell ⟨g3, 0, none⟩ (.slice A3 (k + 1) c3)) (k + 1) A3 c3 (fun i => if i = k then (A2, c2) else s i) := by
 have hne : ∀ q, q < w3.heap.size → some q ≠ (Value.slice A' k c').ownBlock := fun q hq e => by
  have := (h.out.lt q e.symm).1
  omega
 have hsz : w3.heap.size ≤ w6.heap.size := Nat.le_trans h.sz hg.size
 have hbox : Tx w6 g3 (tabA A' k c' Af wl cf sh) := (hg.block g3 (Nat.lt_of_lt_of_le hg3 h.sz) (hne g3 hg3)).trans h.box
 have hel : slvs k f s ++ [.slice A2 (f k).length c2] = slvs (k + 1) f (fun i => if i = k then (A2, c2) else s i) := by
  unfold slvs
  rw [List.range_succ, List.map_append]
  congr 1
  ·
   apply List.map_congr_left
   intro i hi
   have : i ≠ k := by have := List.mem_range.1 hi; omega
   show sl (s i) (f i) = sl (if i = k then (A2, c2) else s i) (f i)
   rw [if_neg this]
  ·
   simp
 rw [hel] at ho
 refine ⟨?_, ?_, ?_, ?_, ?_, ?_⟩
 ·
  exact (h.bel.grown hg h.bel.size (fun q hq => by have := (h.out.lt q hq).1; omega)).setCell (p := ⟨g3, 0, none⟩) hw _
 ·
  intro q hq hn
  rw [Below.heap_setCell w6 ⟨g3, 0, none⟩ _ q hn, hg.block q (Nat.lt_of_lt_of_le hq h.sz) (hne q hq)]
  exact h.kp q hq hn
 ·
  simp [World.setCell]
  exact hsz
 ·
  exact heap_setCell_same w6 g3 0 _ _ _ hbox
 ·
  exact own_cell ho hg3 0 _
 ·
  intro i hi
  refine own_cell ?_ hg3 0 _
  by_cases hik : i = k
  ·
   subst hik
   simp only [if_true]
   refine hr.kept hg ?_
   cases hq : (Value.slice A2 (f i).length c2).ownBlock with
   | none => exact .inl rfl
   | some q => exact .inr fun e => own_ne hr h.out (by decide) q hq e.symm
  ·
   simp only [if_neg hik]
   have hki := h.own i (by omega)
   refine hki.kept hg ?_
   cases hq : (sl (s i) (f i)).ownBlock with
   | none => exact .inl rfl
   | some q => exact .inr fun e => own_ne hki h.out (by decide) q hq e.symm
end
end Go.Proofs.YtfljignkjmabpaaGreat
namespace Go.Proofs.YtfljignkjmabpaaGreat
set_option maxRecDepth 100000
open Go.RowKit
theorem sorted_sub : ∀ (m l : List Int), l.Pairwise (· < ·) → m.Pairwise (· < ·) → (∀ x ∈ l, x ∈ m) → l.Sublist m
 | [], l, _, _, h => by
  cases l with
  | nil => exact List.Sublist.slnil
  | cons x l => exact absurd (h x (by simp)) (by simp)
 | y :: m, [], _, _, _ => List.nil_sublist _
 | y :: m, x :: l, hl, hm, h => by
  rw [List.pairwise_cons] at hl hm
  by_cases hxy : x = y
  ·
   subst hxy
   refine List.Sublist.cons_cons x (sorted_sub m l hl.2 hm.2 fun z hz => ?_)
   rcases List.mem_cons.1 (h z (by simp [hz])) with rfl | hz'
   ·
    exact absurd (hl.1 _ hz) (by omega)
   ·
    exact hz'
  ·
   have hxm : x ∈ m := by
    rcases List.mem_cons.1 (h x (by simp)) with e | e
    ·
     exact absurd e hxy
    ·
     exact e
   have hyx := hm.1 x hxm
   refine List.Sublist.cons y (sorted_sub m (x :: l) (List.pairwise_cons.2 hl) hm.2 fun z hz => ?_)
   rcases List.mem_cons.1 (h z hz) with e | e
   ·
    subst e
    rcases List.mem_cons.1 hz with e | e
    ·
     omega
    ·
     have := hl.1 _ e
     omega
   ·
    exact e
theorem sum_eq {f g : Nat → List Int} : ∀ n, (∀ k, k < n → (f k).length ≤ (g k).length) → sumF g n ≤ sumF f n → ∀ k, k < n → (f k).length = (g k).length
 | 0, _, _, k, hk => absurd hk (Nat.not_lt_zero _)
 | n + 1, h, hs, k, hk => by
  have hle : ∀ m, (∀ k, k < m → (f k).length ≤ (g k).length) → sumF f m ≤ sumF g m := by
   intro m
   induction m with
   | zero => intro _; exact Nat.le_refl _
   | succ m ih =>
    intro h
    have h1 := ih fun k hk => h k (by omega)
    have h2 := h m (by omega)
    rw [sumF, sumF]
    omega
  have h1 := hle n fun k hk => h k (by omega)
  have h2 := h n (by omega)
  rw [sumF, sumF] at hs
  by_cases hkn : k = n
  ·
   subst hkn
   omega
  ·
   exact sum_eq n (fun k hk => h k (by omega)) (by omega) k (by omega)
theorem sum_mono (f : Nat → List Int) {m n : Nat} (h : m ≤ n) : sumF f m ≤ sumF f n := by
 induction n with
 | zero =>
    obtain rfl : m = 0 := by omega
    exact Nat.le_refl _
 | succ n ih =>
  by_cases e : m = n + 1
  ·
   subst e; exact Nat.le_refl _
  ·
   have := ih (by omega)
   rw [sumF]
   omega
theorem sum_same {f g : Nat → List Int} : ∀ n, (∀ k, k < n → f k = g k) → sumF f n = sumF g n
 | 0, _ => rfl
 | n + 1, h => by rw [sumF, sumF, sum_same n (fun k hk => h k (by omega)), h n (by omega)]
theorem cnt_mem {l : List Int} {x : Int} (h : cntL l x = 1) : x ∈ l := by
 unfold cntL at h
 have : (l.filter (· == x)) ≠ [] := by
  intro e
  rw [e] at h
  simp at h
 obtain ⟨y, hy⟩ := List.exists_mem_of_ne_nil _ this
 rw [List.mem_filter] at hy
 have : y = x := by simpa using hy.2
 rw [← this]
 exact hy.1
theorem cnt_one : ∀ {l : List Int} {x : Int}, l.Pairwise (· < ·) → x ∈ l → cntL l x = 1
 | y :: l, x, hl, hx => by
  rw [List.pairwise_cons] at hl
  by_cases e : y = x
  ·
   subst e
   have : l.filter (· == y) = [] := by
    rw [List.filter_eq_nil_iff]
    intro z hz
    have := hl.1 z hz
    simp
    omega
   simp [cntL, this]
  ·
   have hxl : x ∈ l := by
    rcases List.mem_cons.1 hx with h | h
    ·
     exact absurd h.symm e
    ·
     exact h
   have := cnt_one hl.2 hxl
   unfold cntL at *
   simp [e, this]
theorem seen_at {ss : List Sym} {k : Nat} (hk : k < (seenL ss ss.length).length) : ∃ j, ∃ hj : j < ss.length, (seenL ss ss.length)[k] = (j : Int) ∧ seenB ss[j] = true := by
 have hm := List.getElem_mem hk
 unfold seenL at hm
 simp only [List.mem_map, List.mem_filter, List.mem_range] at hm
 obtain ⟨j, ⟨h1, h2⟩, h3⟩ := hm
 exact ⟨j, h1, by unfold seenL; exact h3.symm, by rw [← seenAt_at h1]; exact h2⟩
theorem seen_has {ss : List Sym} {j : Nat} (hj : j < ss.length) (h : seenB ss[j] = true) : ∃ k, ∃ hk : k < (seenL ss ss.length).length, (seenL ss ss.length)[k] = (j : Int) := by
 have : (j : Int) ∈ seenL ss ss.length := by
  unfold seenL
  simp only [List.mem_map, List.mem_filter, List.mem_range]
  exact ⟨j, ⟨hj, by rw [seenAt_at hj]; exact h⟩, rfl⟩
 obtain ⟨k, hk, e⟩ := List.getElem_of_mem this
 exact ⟨k, hk, e⟩
section
variable {n : Nat} {f : Nat → List Int} {L : List UInt64} {sh : Int} {ss : List Sym}
theorem of_right (h : rightT n f L sh ss = true) : 0 < n ∧ (∀ k, k < n → f k = fillS ss n ss.length k) ∧ ∀ h ∈ hashesS ss, Siv.lacksB L sh h = false := by
 unfold rightT formT rowsB at h
 simp only [Bool.and_eq_true, decide_eq_true_eq, Bool.not_eq_true', true_and] at h
 obtain ⟨⟨⟨_, h1, _⟩, _⟩, h2, h3⟩ := h
 exact ⟨by omega, h2, fun x hx => by
  rw [List.any_eq_false] at h3
  simpa using h3 x hx⟩
theorem right_no (h : rightT n f L sh ss = true → False) : rightT n f L sh ss = false := by
 cases e : rightT n f L sh ss
 ·
  rfl
 ·
  exact (h e).elim
theorem right_sum (h : rightT n f L sh ss = true) : sumF f n = (seenL ss ss.length).length := by
 obtain ⟨h0, h1, _⟩ := of_right h
 rw [sum_same n h1, sum_all ss n h0 ss.length (Nat.le_refl _), seen_hashes ss ss.length (Nat.le_refl _)]
theorem right_sorted (h : rightT n f L sh ss = true) {b : Nat} (hb : b < n) : (f b).Pairwise (· < ·) := by
 obtain ⟨_, h1, _⟩ := of_right h
 rw [h1 b hb]
 exact fill_sorted _ _ _ _
theorem right_one (h : rightT n f L sh ss = true) {j : Nat} (hj : j < ss.length) (hs : seenB ss[j] = true) : cntL (f (bkt (hashS ss[j].name) n)) (j : Int) = 1 ∧ Siv.lacksB L sh (hashS ss[j].name) = false := by
 obtain ⟨h0, h1, h2⟩ := of_right h
 refine ⟨?_, h2 _ (hash_mem hj hs)⟩
 rw [h1 _ (bkt_lt _ h0)]
 exact cnt_one (fill_sorted _ _ _ _) (fill_mem.2 ⟨j, rfl, hj, by rw [inB_at hj, hs]; simp⟩)
theorem right_of (hf : formT n L.length sh ss.length = true) (hs : ∀ z, z < n → (f z).Pairwise (· < ·)) (ho : ∀ j (hj : j < ss.length), seenB ss[j] = true → cntL (f (bkt (hashS ss[j].name) n)) (j : Int) = 1 ∧ Siv.lacksB L sh (hashS ss[j].name) = false) (hm : sumF f n = (seenL ss ss.length).length) : rightT n f L sh ss = true := by
 have h0 : 0 < n := by
  unfold formT at hf
  simp only [Bool.and_eq_true, decide_eq_true_eq] at hf
  omega
 have hsub : ∀ b, b < n → (fillS ss n ss.length b).Sublist (f b) := fun b hb => sorted_sub _ _ (fill_sorted _ _ _ _) (hs b hb) fun x hx => by
  obtain ⟨j, rfl, hj, hin⟩ := fill_mem.1 hx
  rw [inB_at hj] at hin
  simp only [Bool.and_eq_true, beq_iff_eq] at hin
  have := (ho j hj hin.1).1
  rw [hin.2] at this
  exact cnt_mem this
 have hsum : sumF f n ≤ sumF (fillS ss n ss.length) n := by
  rw [hm, sum_all ss n h0 ss.length (Nat.le_refl _), seen_hashes ss ss.length (Nat.le_refl _)]
  exact Nat.le_refl _
 have hlen := sum_eq n (fun k hk => (hsub k hk).length_le) hsum
 unfold rightT
 rw [hf, Bool.true_and, rows_yes (fun k hk => ((hsub k hk).eq_of_length (hlen k hk)).symm), Bool.true_and, Bool.not_eq_true']
 rw [List.any_eq_false]
 intro h hh
 unfold hashesS at hh
 obtain ⟨s, hs', rfl⟩ := List.mem_map.1 hh
 rw [List.mem_filter] at hs'
 obtain ⟨j, hj, rfl⟩ := List.getElem_of_mem hs'.1
 have := (ho j hj hs'.2).2
 simp [this]
end
theorem sorted_take {l : List Int} {k : Nat} (hk : k + 1 < l.length) (h : (l.take (k + 1)).Pairwise (· < ·)) (hlt : l[k] < l[k + 1]) : (l.take (k + 2)).Pairwise (· < ·) := by
 rw [List.take_succ_eq_append_getElem hk, List.pairwise_append]
 refine ⟨h, by simp, fun x hx y hy => ?_⟩
 obtain rfl : y = l[k + 1] := by simpa using hy
 rw [List.take_succ_eq_append_getElem (by omega : k < l.length)] at h hx
 rcases List.mem_append.1 hx with hx | hx
 ·
  rw [List.pairwise_append] at h
  have := h.2.2 x hx l[k] (by simp)
  omega
 ·
  obtain rfl : x = l[k] := by simpa using hx
  exact hlt
theorem sorted_at {l : List Int} {k : Nat} (hk : k + 1 < l.length) (h : l.Pairwise (· < ·)) : l[k] < l[k + 1] := List.pairwise_iff_getElem.1 h k (k + 1) (by omega) hk (by omega)
end Go.Proofs.YtfljignkjmabpaaGreat
