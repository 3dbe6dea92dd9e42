/-
  The document's model: words read.
  The document's model: a word anew.
-/
import Derived.Test.YthbdncojekpanaaDf
import Derived.Test.YthbdncojekpanaaDh
namespace Go.Proofs.Ythbdncojekpanaa
section
open Go.RowKit

theorem valN_drop {l : Str} {j : Nat} (h : j < l.length) : valN (l.drop j) = l[j].toNat + 256 * valN (l.drop (j + 1)) := by
  rw [List.drop_eq_getElem_cons h, valN]
theorem valN_small {l : Str} (h : l.length ≤ 8) : valN l < 18446744073709551616 := by
  have h1 := valN_lt l
  have h2 : 256 ^ l.length ≤ 256 ^ 8 := Nat.pow_le_pow_right (by omega) h
  have h3 : (256 : Nat) ^ 8 = 18446744073709551616 := by decide
  omega
def WordD (ds : List Seg) (a need : Int) (w : World) (e : Ending) (w' : World) : Prop := e = .returned (.tuple #[.int .i64 (wordS ds a need), .int .i64 (goesS ds a 8 need)]) ∧ Below w.heap.size w w'
set_option maxRecDepth 100000 in
set_option maxHeartbeats 4000000 in
theorem rWord_any (B g : Nat) (A : Option Addr) (c : Nat) (rs : List Raw) (a p : Int) (ha : I64 a) (hp : p = 0 ∨ p = 1 ∨ p = 2 ∨ p = 4) (hd : Dis rs) (w : World) (h : Seen w g A c rs) (hb : ∀ r ∈ rs, w.ownsRow B 5 1 (.slice r.A r.b.bytes.length r.c) r.b.bytes.length (cells r.b.bytes)) (hf : ∀ r ∈ rs, (r.b.bytes.length : Int) = r.b.size) :
    Calls Try.prog 53 #[.pointer (some ⟨g, 0, none⟩), .int .i64 a, .int .i64 p] w (WordD (segs rs) a p w) := by
  have HG := Lib.hid (rGet_any B g A c rs a 8 p ha hp hd w h hb hf)
  have HY : Hid (∀ w', Below w.heap.size w w' → WordD (segs rs) a p w (.returned (.tuple #[.int .i64 (val (if goesS (segs rs) a 8 p = 0 then gotS (segs rs) a 8 else [])), .int .i64 (goesS (segs rs) a 8 p)])) w') := Lib.hid fun w' hb => ⟨rfl, hb⟩
  have hlen : (if goesS (segs rs) a 8 p = 0 then gotS (segs rs) a 8 else []).length ≤ 8 := by
    split
    · rename_i h0
      rw [gotS_len h0]
      decide
    · simp
  clear h hd hb hf
  unfold TookS at HG
  generalize WordD (segs rs) a p w = L at *
  generalize (if goesS (segs rs) a 8 p = 0 then gotS (segs rs) a 8 else []) = l at *
  generalize goesS (segs rs) a 8 p = E at *
  have HLS := Lib.hid (valN_small hlen)
  go_enter Try.func53, Try.ntmps53
  go_wp2_with fail
  refine HG.out.mono ?_
  rintro e w1 ⟨hb, A1, n1, c1, rfl, hn1, ho⟩
  subst hn1
  have HB := Lib.hid hb
  have HS := Lib.hid (Src.of_own ho).lt
  have HY2 := Lib.hid (HY.out w1 hb)
  clear HG hb ho HY
  go_wp2_with fail
  go_loop [10, 11] (fun t10 t11 => ∃ j : Nat, j ≤ l.length ∧ t11 = .int .i64 ((j : Int) - 1) ∧ t10 = .int .u64 (valN (l.drop j) : Nat)) (fun _ t11 => (intOf t11 + 1).toNat)
  case atStart => exact ⟨l.length, Nat.le_refl _, rfl, by rw [List.drop_length]; rfl⟩
  case round =>
    obtain ⟨j, hj, rfl, rfl⟩ := hrel
    by_cases h0 : j = 0
    · subst h0
      go_wp2_with fail
      first | go_ret2 | skip
      exact HY2.out
    · obtain ⟨i, rfl⟩ : ∃ i, j = i + 1 := ⟨j - 1, by omega⟩
      have hi : i < l.length := by omega
      obtain ⟨ad, rfl⟩ : ∃ ad, A1 = some ad := by
        cases A1 with
        | none => have := (HS.out.nil rfl).1; omega
        | some ad => exact ⟨ad, rfl⟩
      have hcell : w1.cell? (ad.add i) = some (.int .u8 (l[i].toNat : Int)) := HS.out.at_ ad rfl i _ (by simp [cells, List.getElem?_eq_getElem hi])
      have hcap := HS.out.cap
      have hvd := valN_drop hi
      have hsm : valN (l.drop i) < 18446744073709551616 := valN_small (by rw [List.length_drop]; omega)
      have HVD := Lib.hid hvd
      have hbt := l[i].toNat_lt
      have e1 : ((i + 1 : Nat) : Int) - 1 = (i : Int) := by omega
      rw [e1]
      generalize l[i].toNat = bt at *
      generalize valN (l.drop (i + 1)) = V at *
      have hV : bt + 256 * V < 18446744073709551616 := by omega
      clear hvd hsm
      go_wp2_with fail
      refine ⟨⟨i, by omega, rfl, ?_⟩, by simp [intOf]⟩
      rw [HVD.out]
      refine congrArg (Value.int .u64) ?_
      rw [Int.natCast_add, Int.natCast_mul]
      omega
end

section
open Go.RowKit

theorem src_one {w : World} (v : Value) (t : TypeId) : Src (w.alloc (.cells #[v] t)) (fun k => k = w.heap.size) (some ⟨w.heap.size, 0, none⟩) 1 1 [v] := by
  have hx := Bx.new w #[v] t
  refine ⟨rfl, (by intro e; cases e), Nat.le_refl _, (by intro ad e _; cases e; rfl), fun ad e j u hu => ?_⟩
  cases e
  have hj : j = 0 := by have := (List.getElem?_eq_some_iff.1 hu).1; simp at this; omega
  subst hj
  rw [plainAdd, Nat.zero_add, hx.c 0]
  simpa using hu
theorem wrap_u (n : Int) : IntKind.u64.wrap n = n % 18446744073709551616 := by
  simp [IntKind.wrap, IntKind.bits, IntKind.signed]
theorem dig_div {n : Int} {k : Nat} (hk : k < 8) : ((n % 18446744073709551616).toNat / 256 ^ k) % 256 = (dig n k).toNat := by
  have hd := dig_val n k
  have hc : k = 0 ∨ k = 1 ∨ k = 2 ∨ k = 3 ∨ k = 4 ∨ k = 5 ∨ k = 6 ∨ k = 7 := by omega
  rcases hc with rfl | rfl | rfl | rfl | rfl | rfl | rfl | rfl <;> simp at hd ⊢ <;> omega
set_option maxRecDepth 100000 in
set_option maxHeartbeats 2000000 in
theorem rSetWord_any (B g : Nat) (A : Option Addr) (c : Nat) (rs : List Raw) (a n p : Int) (ha : I64 a) (hp : p = 0 ∨ p = 1 ∨ p = 2 ∨ p = 4) (hd : Dis rs) (w : World) (h : Seen w g A c rs) (hdp : Dp w B g A c rs) :
    Calls Try.prog 47 #[.pointer (some ⟨g, 0, none⟩), .int .i64 a, .int .i64 n, .int .i64 p] w (SetD w B g A c rs a (digs n 8) p) := by
  obtain ⟨i0, hi, hz0, hz1, hz2⟩ := info_parts Try.info_u8
  have HS : Hid (∀ w' A' c', Below w.heap.size w w' → w'.ownsRow w.heap.size 5 1 (.slice A' 8 c') 8 (cells (digs n 8)) → Calls Try.prog 46 #[.pointer (some ⟨g, 0, none⟩), .int .i64 a, .slice A' 8 c', .int .i64 p] w' (SetD w' B g A c rs a (digs n 8) p)) := Lib.hid fun w' A' c' hb ho =>
    rSet_any B g A c rs a p _ A' 8 c' (digs n 8) ha hp hd w' (h.below hb) (hdp.beside (Beside.of_below hb (fun _ => False)) fun _ _ e => e) (Src.of_own ho) fun q hq => ⟨fun hf => by have := (hdp.lt hf).2; omega, hq.2.2⟩
  have HEN : Hid (∀ w1 e w2, Below w.heap.size w w1 → SetD w1 B g A c rs a (digs n 8) p e w2 → (∃ E, e = .returned (.int .i64 E)) ∧ SetD w B g A c rs a (digs n 8) p e w2) := Lib.hid fun w1 e w2 hb hs => by
    rcases hs with ⟨h1, rfl, h3⟩ | ⟨h1, rfl, rs', h2, h3, h4, h5⟩
    · exact ⟨⟨_, rfl⟩, .inl ⟨h1, rfl, hb.trans (h3.mono hb.size)⟩⟩
    · exact ⟨⟨_, rfl⟩, .inr ⟨h1, rfl, rs', h2, h3, h4, (Beside.of_below hb _).trans h5⟩⟩
  generalize hL : SetD w B g A c rs a (digs n 8) p = L at *
  clear hL h hdp hd hp ha
  obtain ⟨U, hU⟩ : ∃ U : Nat, U = (n % 18446744073709551616).toNat := ⟨_, rfl⟩
  have hUi : n % 18446744073709551616 = (U : Int) := by omega
  have HDG := Lib.hid (fun k (hk : k < 8) => dig_div (n := n) hk)
  rw [← hU] at HDG
  have HUI := Lib.hid hUi
  have hUl : U < 18446744073709551616 := by omega
  clear hU hUi
  go_enter Try.func47, Try.ntmps47
  go_wp2_with fail
  go_loopw [9, 10, 11] (fun t9 t10 t11 wr => ∃ (k : Nat) (A' : Option Addr) (c' : Nat), k ≤ 8 ∧ t11 = .int .i64 k ∧ t10 = .int .u64 ((U / 256 ^ k : Nat) : Int) ∧ t9 = .slice A' k c' ∧ wr.ownsRow w.heap.size 5 1 (.slice A' k c') k (cells (digs n k)) ∧ Below w.heap.size w wr) (fun _ _ t11 _ => 8 - (intOf t11).toNat)
  case atStart => exact ⟨0, none, 0, by omega, rfl, by rw [Nat.pow_zero, Nat.div_one, ← HUI.out, wrap_u], rfl, ⟨rfl, .inl ⟨rfl, rfl⟩⟩, Below.refl _ _⟩
  case round =>
    obtain ⟨k, A', c', hk, rfl, rfl, rfl, ho, hb⟩ := hrel
    have HO := Lib.hid ho
    have HB := Lib.hid hb
    clear ho hb
    by_cases hlt : k < 8
    · have HD2 := Lib.hid (HDG.out k hlt)
      have HP2 := Lib.hid (show U / 256 ^ (k + 1) = U / 256 ^ k / 256 by rw [Nat.pow_succ, Nat.div_div_eq_div_mul])
      have hVl : U / 256 ^ k < 18446744073709551616 := Nat.lt_of_le_of_lt (Nat.div_le_self _ _) hUl
      generalize U / 256 ^ k = V at *
      have hbt := (dig n k).toNat_lt
      have e1 : (V : Int) % 256 = ((dig n k).toNat : Int) := by have := HD2.out; omega
      have HBA := Lib.hid (HB.out.alloc HB.out.size (.cells #[.int .u8 ((dig n k).toNat : Int)] 5))
      have HSR := Lib.hid (src_one (w := wr) (.int .u8 ((dig n k).toNat : Int)) 5)
      have HO2 := Lib.hid (own_beside HO.out (Beside.alloc wr (.cells #[.int .u8 ((dig n k).toNat : Int)] 5) (fun _ => False)) fun _ _ e => e)
      have h1c : ∀ u ∈ [Value.int .u8 ((dig n k).toNat : Int)], u.oneCell' = true := by intro u hu; rw [List.mem_singleton.1 hu]; rfl
      have m1 : k + 1 ≤ maxLen := by simp only [maxLen]; omega
      have m2 : (k + 1) * 1 ≤ 140737488355328 := by omega
      have hsz := HBA.out.size
      go_wp2_with (at_builtin; refine wpList_append_src rfl (.tmp 18) (.tmp 22) _ rfl w.heap.size 5 i0 _ 1 Try.underlying31 hi hz0 hz1 hz2 rfl (.slice A' k c') k (cells (digs n k)) rfl HO2.out _ (some ⟨wr.heap.size, 0, none⟩) 1 1 [Value.int .u8 ((dig n k).toNat : Int)] rfl HSR.out h1c m1 m2 hsz ?_; intro v' w2 hown hg hat; obtain ⟨A2, c2, rfl⟩ := own_slice hown; have HO3 := Lib.hid hown; have HB2 := Lib.hid (HBA.out.grown hg hsz (fun q hq => (HO2.out.lt q hq).1)); clear hown hg hat)
      have HO4 := Lib.hid (show w2.ownsRow w.heap.size 5 1 (.slice A2 (k + 1) c2) (k + 1) (cells (digs n (k + 1))) by
        have h := HO3.out
        rw [show cells (digs n k) ++ [Value.int .u8 ((dig n k).toNat : Int)] = cells (digs n (k + 1)) by rw [digs_succ]; simp [cells]] at h
        exact h)
      refine ⟨⟨k + 1, A2, c2, hlt, by go_num, ?_, rfl, HO4.out, HB2.out⟩, by simp [intOf]; omega⟩
      refine congrArg (Value.int .u64) ?_
      rw [HP2.out]
      omega
    · obtain rfl : k = 8 := by omega
      have HX := Lib.hid (HS.out wr A' c' HB.out HO.out)
      clear HS HO HDG
      generalize U / 256 ^ 8 = V at *
      go_wp2_with fail
      refine HX.out.mono ?_
      intro e w2 hs
      obtain ⟨⟨E, rfl⟩, he⟩ := HEN.out wr e w2 HB.out hs
      have HE := Lib.hid he
      clear hs he HX HEN
      go_wp2_with fail
      first | go_ret | skip
      exact HE.out
end
end Go.Proofs.Ythbdncojekpanaa
