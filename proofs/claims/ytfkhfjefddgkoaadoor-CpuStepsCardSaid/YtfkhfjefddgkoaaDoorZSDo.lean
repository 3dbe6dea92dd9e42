/-
  The document's model: a word anew.
  The document's model as plain regions: what each of its functions answers.
-/
import Derived.Test.YtfkhfjefddgkoaaDoorZSDj
import Derived.Test.YtfkhfjefddgkoaaDoorZSDm
import Derived.Test.YtfkhfjefddgkoaaDoorZSDg
namespace Go.Proofs.YtfkhfjefddgkoaaDoor
open Go.RowKit

theorem src_one {w : World} (v : Value) (t : TypeId) : Src (w.alloc (.cells #[v] t)) (fun k => k = w.heap.size) (some ⟨w.heap.size, 0, none⟩) 1 1 [v] := by
  have hx := Bx.new w #[v] t
  refine ⟨rfl, (by intro e; cases e), Nat.le_refl _, (by intro ad e _; cases e; rfl), fun ad e j u hu => ?_⟩
  cases e
  have hj : j = 0 := by have := (List.getElem?_eq_some_iff.1 hu).1; simp at this; omega
  subst hj
  rw [plainAdd, Nat.zero_add, hx.c 0]
  simpa using hu
theorem wrap_u (n : Int) : IntKind.u64.wrap n = n % 18446744073709551616 := by
  simp [IntKind.wrap, IntKind.bits, IntKind.signed]
theorem dig_div {n : Int} {k : Nat} (hk : k < 8) : ((n % 18446744073709551616).toNat / 256 ^ k) % 256 = (dig n k).toNat := by
  have hd := dig_val n k
  have hc : k = 0 ∨ k = 1 ∨ k = 2 ∨ k = 3 ∨ k = 4 ∨ k = 5 ∨ k = 6 ∨ k = 7 := by omega
  rcases hc with rfl | rfl | rfl | rfl | rfl | rfl | rfl | rfl <;> simp at hd ⊢ <;> omega
set_option maxRecDepth 100000 in
set_option maxHeartbeats 2000000 in
theorem rSetWord_any (B g : Nat) (A : Option Addr) (c : Nat) (rs : List Raw) (a n p : Int) (ha : I64 a) (hp : p = 0 ∨ p = 1 ∨ p = 2 ∨ p = 4) (hd : Dis rs) (w : World) (h : Seen w g A c rs) (hdp : Dp w B g A c rs) :
    Calls Tryd.prog 32 #[.pointer (some ⟨g, 0, none⟩), .int .i64 a, .int .i64 n, .int .i64 p] w (SetD w B g A c rs a (digs n 8) p) := by
  obtain ⟨i0, hi, hz0, hz1, hz2⟩ := info_parts Tryd.info_u8
  have HS : Hid (∀ w' A' c', Below w.heap.size w w' → w'.ownsRow w.heap.size 5 1 (.slice A' 8 c') 8 (cells (digs n 8)) → Calls Tryd.prog 22 #[.pointer (some ⟨g, 0, none⟩), .int .i64 a, .slice A' 8 c', .int .i64 p] w' (SetD w' B g A c rs a (digs n 8) p)) := Lib.hid fun w' A' c' hb ho =>
    rSet_any B g A c rs a p _ A' 8 c' (digs n 8) ha hp hd w' (h.below hb) (hdp.beside (Beside.of_below hb (fun _ => False)) fun _ _ e => e) (Src.of_own ho) fun q hq => ⟨fun hf => by have := (hdp.lt hf).2; omega, hq.2.2⟩
  have HEN : Hid (∀ w1 e w2, Below w.heap.size w w1 → SetD w1 B g A c rs a (digs n 8) p e w2 → (∃ E, e = .returned (.int .i64 E)) ∧ SetD w B g A c rs a (digs n 8) p e w2) := Lib.hid fun w1 e w2 hb hs => by
    rcases hs with ⟨h1, rfl, h3⟩ | ⟨h1, rfl, rs', h2, h3, h4, h5⟩
    · exact ⟨⟨_, rfl⟩, .inl ⟨h1, rfl, hb.trans (h3.mono hb.size)⟩⟩
    · exact ⟨⟨_, rfl⟩, .inr ⟨h1, rfl, rs', h2, h3, h4, (Beside.of_below hb _).trans h5⟩⟩
  generalize hL : SetD w B g A c rs a (digs n 8) p = L at *
  clear hL h hdp hd hp ha
  obtain ⟨U, hU⟩ : ∃ U : Nat, U = (n % 18446744073709551616).toNat := ⟨_, rfl⟩
  have hUi : n % 18446744073709551616 = (U : Int) := by omega
  have HDG := Lib.hid (fun k (hk : k < 8) => dig_div (n := n) hk)
  rw [← hU] at HDG
  have HUI := Lib.hid hUi
  have hUl : U < 18446744073709551616 := by omega
  clear hU hUi
  go_enter Tryd.func32, Tryd.ntmps32
  go_wp2_with fail
  go_loopw [9, 10, 11] (fun t9 t10 t11 wr => ∃ (k : Nat) (A' : Option Addr) (c' : Nat), k ≤ 8 ∧ t11 = .int .i64 k ∧ t10 = .int .u64 ((U / 256 ^ k : Nat) : Int) ∧ t9 = .slice A' k c' ∧ wr.ownsRow w.heap.size 5 1 (.slice A' k c') k (cells (digs n k)) ∧ Below w.heap.size w wr) (fun _ _ t11 _ => 8 - (intOf t11).toNat)
  case atStart => exact ⟨0, none, 0, by omega, rfl, by rw [Nat.pow_zero, Nat.div_one, ← HUI.out, wrap_u], rfl, ⟨rfl, .inl ⟨rfl, rfl⟩⟩, Below.refl _ _⟩
  case round =>
    obtain ⟨k, A', c', hk, rfl, rfl, rfl, ho, hb⟩ := hrel
    have HO := Lib.hid ho
    have HB := Lib.hid hb
    clear ho hb
    by_cases hlt : k < 8
    · have HD2 := Lib.hid (HDG.out k hlt)
      have HP2 := Lib.hid (show U / 256 ^ (k + 1) = U / 256 ^ k / 256 by rw [Nat.pow_succ, Nat.div_div_eq_div_mul])
      have hVl : U / 256 ^ k < 18446744073709551616 := Nat.lt_of_le_of_lt (Nat.div_le_self _ _) hUl
      generalize U / 256 ^ k = V at *
      have hbt := (dig n k).toNat_lt
      have e1 : (V : Int) % 256 = ((dig n k).toNat : Int) := by have := HD2.out; omega
      have HBA := Lib.hid (HB.out.alloc HB.out.size (.cells #[.int .u8 ((dig n k).toNat : Int)] 5))
      have HSR := Lib.hid (src_one (w := wr) (.int .u8 ((dig n k).toNat : Int)) 5)
      have HO2 := Lib.hid (own_beside HO.out (Beside.alloc wr (.cells #[.int .u8 ((dig n k).toNat : Int)] 5) (fun _ => False)) fun _ _ e => e)
      have h1c : ∀ u ∈ [Value.int .u8 ((dig n k).toNat : Int)], u.oneCell' = true := by intro u hu; rw [List.mem_singleton.1 hu]; rfl
      have m1 : k + 1 ≤ maxLen := by simp only [maxLen]; omega
      have m2 : (k + 1) * 1 ≤ 140737488355328 := by omega
      have hsz := HBA.out.size
      go_wp2_with (at_builtin; refine wpList_append_src rfl (.tmp 18) (.tmp 22) _ rfl w.heap.size 5 i0 _ 1 Tryd.underlying55 hi hz0 hz1 hz2 rfl (.slice A' k c') k (cells (digs n k)) rfl HO2.out _ (some ⟨wr.heap.size, 0, none⟩) 1 1 [Value.int .u8 ((dig n k).toNat : Int)] rfl HSR.out h1c m1 m2 hsz ?_; intro v' w2 hown hg hat; obtain ⟨A2, c2, rfl⟩ := own_slice hown; have HO3 := Lib.hid hown; have HB2 := Lib.hid (HBA.out.grown hg hsz (fun q hq => (HO2.out.lt q hq).1)); clear hown hg hat)
      have HO4 := Lib.hid (show w2.ownsRow w.heap.size 5 1 (.slice A2 (k + 1) c2) (k + 1) (cells (digs n (k + 1))) by
        have h := HO3.out
        rw [show cells (digs n k) ++ [Value.int .u8 ((dig n k).toNat : Int)] = cells (digs n (k + 1)) by rw [digs_succ]; simp [cells]] at h
        exact h)
      refine ⟨⟨k + 1, A2, c2, hlt, by go_num, ?_, rfl, HO4.out, HB2.out⟩, by simp [intOf]; omega⟩
      refine congrArg (Value.int .u64) ?_
      rw [HP2.out]
      omega
    · obtain rfl : k = 8 := by omega
      have HX := Lib.hid (HS.out wr A' c' HB.out HO.out)
      clear HS HO HDG
      generalize U / 256 ^ 8 = V at *
      go_wp2_with fail
      refine HX.out.mono ?_
      intro e w2 hs
      obtain ⟨⟨E, rfl⟩, he⟩ := HEN.out wr e w2 HB.out hs
      have HE := Lib.hid he
      clear hs he HX HEN
      go_wp2_with fail
      first | go_ret | skip
      exact HE.out
end Go.Proofs.YtfkhfjefddgkoaaDoor

namespace Go.Proofs.YtfkhfjefddgkoaaDoor
open Go.RowKit

theorem good_few {ss : List Seg} (h : Good ss) : ss.length ≤ 67108864 := by
  have key : ∀ j (hj : j < ss.length), 4096 + (j : Int) * 64 ≤ ss[j].at_ := by
    intro j
    induction j with
    | zero => intro hj; have := (h.fit ss[0] (List.getElem_mem hj)).1; omega
    | succ j ih =>
      intro hj
      have h1 := ih (by omega)
      have h2 := h.next_at (j := j) (k := j + 1) (by omega) hj (by omega)
      have h3 := (h.fit ss[j] (List.getElem_mem (by omega))).2.2.1
      omega
  rcases Nat.eq_zero_or_pos ss.length with h0 | h0
  · omega
  · have h1 := key (ss.length - 1) (by omega)
    have h2 := h.fit ss[ss.length - 1] (List.getElem_mem (by omega))
    omega
/-- A space of the document's in memory, that is these regions. -/
def Mies (w : World) (B g : Nat) (F : Nat → Prop) (ss : List Seg) : Prop := ∃ A c rs, Dp w B g A c rs ∧ (segs rs).Perm ss ∧ Good ss ∧ ∀ k, F k ↔ Foot g A rs k
def WentM (w w' : World) (B g : Nat) (F : Nat → Prop) (ss : List Seg) : Prop := ∃ F', Mies w' B g F' ss ∧ Beside w w' F ∧ ∀ k, F' k → F k ∨ w.heap.size ≤ k
theorem seen_of {w : World} {B g c : Nat} {A : Option Addr} {rs : List Raw} {ss : List Seg} (h : Dp w B g A c rs) (hp : (segs rs).Perm ss) (hg : Good ss) : Seen w g A c rs :=
  ⟨h.box.c 0, h.bls, fun r hr => hg.fit (seg r.b) (hp.mem_iff.1 (List.mem_map_of_mem hr)), by have := hp.length_eq; rw [segs_len] at this; have := good_few hg; omega⟩
theorem Mies.lt {w : World} {B g : Nat} {F : Nat → Prop} {ss : List Seg} (h : Mies w B g F ss) {k : Nat} (hk : F k) : B ≤ k ∧ k < w.heap.size := by
  obtain ⟨A, c, rs, h1, _, _, h4⟩ := h
  exact h1.lt ((h4 k).1 hk)
theorem Mies.good {w : World} {B g : Nat} {F : Nat → Prop} {ss : List Seg} (h : Mies w B g F ss) : Good ss := by
  obtain ⟨_, _, _, _, _, h, _⟩ := h
  exact h
theorem Mies.beside {w w' : World} {B g : Nat} {F p : Nat → Prop} {ss : List Seg} (h : Mies w B g F ss) (hb : Beside w w' p) (hn : ∀ k, F k → ¬ p k) : Mies w' B g F ss := by
  obtain ⟨A, c, rs, h1, h2, h3, h4⟩ := h
  exact ⟨A, c, rs, h1.beside hb fun k hk => hn k ((h4 k).2 hk), h2, h3, h4⟩
theorem Mies.below {w w' : World} {B g : Nat} {F : Nat → Prop} {ss : List Seg} (h : Mies w B g F ss) (hb : Below w.heap.size w w') : Mies w' B g F ss := h.beside (Beside.of_below hb (fun _ => False)) fun _ _ e => e
theorem hold_perm {rs : List Raw} {ss : List Seg} (hg : Good ss) (hp : (segs rs).Perm ss) {a n : Int} (hn : 1 ≤ n) : holdS (segs rs) a n = holdS ss a n := by
  cases h : holdS ss a n with
  | none =>
    refine hold_no fun k hk hh => ?_
    have hm : seg rs[k].b ∈ ss := hp.mem_iff.1 (List.mem_map_of_mem (List.getElem_mem hk))
    rw [hold_mem hg hm hn hh.1 hh.2] at h
    cases h
  | some s =>
    obtain ⟨h0, h1, h2⟩ := hold_in h
    obtain ⟨x, hx, rfl⟩ := segs_mem (hp.mem_iff.2 h0)
    obtain ⟨k, hk, rfl⟩ := List.getElem_of_mem hx
    exact hold_dis (dis_of hg hp) hn hk h1 h2
theorem goes_perm {rs : List Raw} {ss : List Seg} (hg : Good ss) (hp : (segs rs).Perm ss) (a n need : Int) : goesS (segs rs) a n need = goesS ss a n need := by
  unfold goesS
  by_cases h : n < 1 ∨ 1048576 < n
  · rw [if_pos h, if_pos h]
  · rw [if_neg h, if_neg h, hold_perm hg hp (by omega)]
theorem got_perm {rs : List Raw} {ss : List Seg} (hg : Good ss) (hp : (segs rs).Perm ss) {a n : Int} (hn : 1 ≤ n) : gotS (segs rs) a n = gotS ss a n := by
  unfold gotS
  rw [hold_perm hg hp hn]
theorem read_perm {rs : List Raw} {ss : List Seg} (hg : Good ss) (hp : (segs rs).Perm ss) (a n need : Int) : (if goesS (segs rs) a n need = 0 then gotS (segs rs) a n else []) = (if goesS ss a n need = 0 then gotS ss a n else []) := by
  rw [goes_perm hg hp]
  by_cases h : goesS ss a n need = 0
  · rw [if_pos h, if_pos h, got_perm hg hp (goes_len h).1]
  · rw [if_neg h, if_neg h]
theorem ins_perm (x : Seg) : ∀ ss : List Seg, (insS x ss).Perm (x :: ss)
  | [] => List.Perm.refl _
  | s :: ss => by
    unfold insS
    split
    · exact List.Perm.refl _
    · exact ((ins_perm x ss).cons s).trans (List.Perm.swap x s ss)
theorem snoc_perm {rs : List Raw} {ss : List Seg} (hp : (segs rs).Perm ss) (x : Seg) : (segs rs ++ [x]).Perm (insS x ss) :=
  (List.perm_append_comm.trans (hp.cons x)).trans (ins_perm x ss).symm
theorem Moved.wentM {w w' : World} {B g : Nat} {A : Option Addr} {rs : List Raw} {ds ss : List Seg} {F : Nat → Prop} (h : Moved w w' B g A rs ds) (hF : ∀ k, F k ↔ Foot g A rs k) (hp : ds.Perm ss) (hg : Good ss) : WentM w w' B g F ss := by
  obtain ⟨A', c', rs', h1, h2, h3, h4⟩ := h
  exact ⟨Foot g A' rs', ⟨A', c', rs', h1, by rw [h2]; exact hp, hg, fun _ => Iff.rfl⟩, h3.weak fun k _ hk => (hF k).2 hk, fun k hk => (h4 k hk).imp (hF k).2 id⟩
theorem Map_m {w : World} {B g : Nat} {F : Nat → Prop} {ss : List Seg} (s p : Int) (h : Mies w B g F ss) :
    Calls Tryd.prog 61 #[.pointer (some ⟨g, 0, none⟩), .int .i64 s, .int .i64 p] w fun e w' => e = .returned (.tuple #[.int .i64 (mapS ss s p).1, .int .i64 (mapS ss s p).2.1]) ∧ WentM w w' B g F (mapS ss s p).2.2 := by
  obtain ⟨A, c, rs, h1, hp, hg, hF⟩ := h
  refine (rMap_any B g A c rs ss s p hg hp w (seen_of h1 hp hg) h1).mono fun e w' ⟨he, hm⟩ => ⟨he, ?_⟩
  have hgd := good_map_ hg s p
  rcases map_cases hg s p with hc | hc | ⟨a, hc, _⟩
  · rw [hc] at hm hgd ⊢
    rcases hm with ⟨_, hm⟩ | ⟨h0, _⟩
    · exact hm.wentM hF hp hgd
    · exact absurd h0 (by show (1 : Int) ≠ 0; decide)
  · rw [hc] at hm hgd ⊢
    rcases hm with ⟨_, hm⟩ | ⟨h0, _⟩
    · exact hm.wentM hF hp hgd
    · exact absurd h0 (by show (3 : Int) ≠ 0; decide)
  · rw [hc] at hm hgd ⊢
    rcases hm with ⟨h0, _⟩ | ⟨_, hm⟩
    · exact absurd rfl h0
    · exact hm.wentM hF (snoc_perm hp _) hgd
theorem MapAt_m {w : World} {B g : Nat} {F : Nat → Prop} {ss : List Seg} (a s p : Int) (h : Mies w B g F ss) :
    Calls Tryd.prog 18 #[.pointer (some ⟨g, 0, none⟩), .int .i64 a, .int .i64 s, .int .i64 p] w fun e w' => e = .returned (.int .i64 (mapAtS ss a s p).1) ∧ WentM w w' B g F (mapAtS ss a s p).2 := by
  obtain ⟨A, c, rs, h1, hp, hg, hF⟩ := h
  refine (rMapAt_any B g A c rs ss a s p hg hp w (seen_of h1 hp hg) h1).mono fun e w' ⟨he, hm⟩ => ⟨he, ?_⟩
  have hgd := good_mapAt hg a s p
  have hca : (mapAtS ss a s p).1 = 0 ∧ (mapAtS ss a s p).2 = insS (newS a (up s) p) ss ∨ (mapAtS ss a s p).1 ≠ 0 ∧ (mapAtS ss a s p).2 = ss := by
    unfold mapAtS
    split
    · split
      · exact .inl ⟨rfl, rfl⟩
      · exact .inr ⟨by show (51 : Int) ≠ 0; decide, rfl⟩
    · exact .inr ⟨by show (1 : Int) ≠ 0; decide, rfl⟩
  rcases hca with ⟨c1, c2⟩ | ⟨c1, c2⟩
  · rcases hm with ⟨h0, _⟩ | ⟨_, hm⟩
    · exact absurd c1 h0
    · rw [c2] at hgd ⊢
      exact hm.wentM hF (snoc_perm hp _) hgd
  · rcases hm with ⟨_, hm⟩ | ⟨h0, _⟩
    · rw [c2] at hgd ⊢
      exact hm.wentM hF hp hgd
    · exact absurd h0 c1
theorem has_perm {rs : List Raw} {ss : List Seg} (hp : (segs rs).Perm ss) (a : Int) : hasS (segs rs) a = hasS ss a := by
  unfold hasS
  rw [Bool.eq_iff_iff, List.any_eq_true, List.any_eq_true]
  exact ⟨fun ⟨x, hx, e⟩ => ⟨x, hp.mem_iff.1 hx, e⟩, fun ⟨x, hx, e⟩ => ⟨x, hp.mem_iff.2 hx, e⟩⟩
theorem Unmap_m {w : World} {B g : Nat} {F : Nat → Prop} {ss : List Seg} (a : Int) (h : Mies w B g F ss) :
    Calls Tryd.prog 62 #[.pointer (some ⟨g, 0, none⟩), .int .i64 a] w fun e w' => e = .returned (.int .i64 (unmapS ss a).1) ∧ WentM w w' B g F (unmapS ss a).2 := by
  obtain ⟨A, c, rs, h1, hp, hg, hF⟩ := h
  refine (rUnmap_any B g A c rs a (dis_of hg hp) w (seen_of h1 hp hg) h1).mono fun e w' ⟨he, hm⟩ => ?_
  have hgd := good_unmap hg a
  unfold unmapS at he hm hgd ⊢
  rw [has_perm hp] at he hm
  by_cases hh : hasS ss a = true
  · rw [if_pos hh] at he hm hgd ⊢
    exact ⟨he, hm.wentM hF (hp.filter _) hgd⟩
  · rw [if_neg hh] at he hm hgd ⊢
    exact ⟨he, hm.wentM hF hp hgd⟩
theorem Protect_m {w : World} {B g : Nat} {F : Nat → Prop} {ss : List Seg} (a p : Int) (h : Mies w B g F ss) :
    Calls Tryd.prog 63 #[.pointer (some ⟨g, 0, none⟩), .int .i64 a, .int .i64 p] w fun e w' => e = .returned (.int .i64 (protS ss a p).1) ∧ WentM w w' B g F (protS ss a p).2 := by
  obtain ⟨A, c, rs, h1, hp, hg, hF⟩ := h
  refine (rProtect_any B g A c rs a p (dis_of hg hp) w (seen_of h1 hp hg) h1).mono fun e w' ⟨he, hm⟩ => ?_
  have hgd := good_prot hg a p
  unfold protS at he hm hgd ⊢
  rw [has_perm hp] at he hm
  by_cases hb : permB p = true
  · rw [if_pos hb] at he hm hgd ⊢
    by_cases hh : hasS ss a = true
    · rw [if_pos hh] at he hm hgd ⊢
      exact ⟨he, hm.wentM hF (hp.map _) hgd⟩
    · rw [if_neg hh] at he hm hgd ⊢
      exact ⟨he, hm.wentM hF hp hgd⟩
  · rw [if_neg hb] at he hm hgd ⊢
    exact ⟨he, hm.wentM hF hp hgd⟩
theorem SetD.wentM {w w' : World} {B g c : Nat} {A : Option Addr} {rs : List Raw} {ss : List Seg} {F : Nat → Prop} {a need : Int} {ms : Str} {e : Ending} (h1 : Dp w B g A c rs) (hp : (segs rs).Perm ss) (hg : Good ss) (hF : ∀ k, F k ↔ Foot g A rs k) (h : SetD w B g A c rs a ms need e w') :
    e = .returned (.int .i64 (storeS ss a ms need).1) ∧ WentM w w' B g F (storeS ss a ms need).2 := by
  have hgd := good_store hg a ms need
  unfold storeS at hgd ⊢
  rcases h with ⟨h0, he, hb⟩ | ⟨h0, he, rs', h2, h3, h4, h5⟩
  · rw [goes_perm hg hp] at h0 he
    rw [if_neg h0] at hgd ⊢
    exact ⟨he, (Moved.stay h1 hb).wentM hF hp hgd⟩
  · rw [goes_perm hg hp] at h0
    rw [if_pos h0] at hgd ⊢
    exact ⟨he, Moved.wentM ⟨A, c, rs', h2, h3, h5, fun k hk => .inl ((h4 k).1 hk)⟩ hF (hp.map _) hgd⟩
theorem Set_m {w : World} {B g : Nat} {F P : Nat → Prop} {ss : List Seg} {a p : Int} {SA : Option Addr} {m sc : Nat} {ms : Str} (ha : I64 a) (hp : p = 0 ∨ p = 1 ∨ p = 2 ∨ p = 4) (h : Mies w B g F ss) (hs : Src w P SA m sc (cells ms)) (hP : ∀ q, P q → ¬ F q ∧ q < w.heap.size) :
    Calls Tryd.prog 22 #[.pointer (some ⟨g, 0, none⟩), .int .i64 a, .slice SA m sc, .int .i64 p] w fun e w' => e = .returned (.int .i64 (storeS ss a ms p).1) ∧ WentM w w' B g F (storeS ss a ms p).2 := by
  obtain ⟨A, c, rs, h1, hpm, hg, hF⟩ := h
  exact (rSet_any B g A c rs a p P SA m sc ms ha hp (dis_of hg hpm) w (seen_of h1 hpm hg) h1 hs fun q hq => ⟨fun e => (hP q hq).1 ((hF q).2 e), (hP q hq).2⟩).mono fun e w' hm => hm.wentM h1 hpm hg hF
theorem SetWord_m {w : World} {B g : Nat} {F : Nat → Prop} {ss : List Seg} {a p : Int} (n : Int) (ha : I64 a) (hp : p = 0 ∨ p = 1 ∨ p = 2 ∨ p = 4) (h : Mies w B g F ss) :
    Calls Tryd.prog 32 #[.pointer (some ⟨g, 0, none⟩), .int .i64 a, .int .i64 n, .int .i64 p] w fun e w' => e = .returned (.int .i64 (storeS ss a (digs n 8) p).1) ∧ WentM w w' B g F (storeS ss a (digs n 8) p).2 := by
  obtain ⟨A, c, rs, h1, hpm, hg, hF⟩ := h
  exact (rSetWord_any B g A c rs a n p ha hp (dis_of hg hpm) w (seen_of h1 hpm hg) h1).mono fun e w' hm => hm.wentM h1 hpm hg hF
theorem Get_m {w : World} {B g : Nat} {F : Nat → Prop} {ss : List Seg} {a p : Int} (n : Int) (ha : I64 a) (hp : p = 0 ∨ p = 1 ∨ p = 2 ∨ p = 4) (h : Mies w B g F ss) :
    Calls Tryd.prog 38 #[.pointer (some ⟨g, 0, none⟩), .int .i64 a, .int .i64 n, .int .i64 p] w (TookS w ss a n p) := by
  obtain ⟨A, c, rs, h1, hpm, hg, hF⟩ := h
  refine (rGet_any B g A c rs a n p ha hp (dis_of hg hpm) w (seen_of h1 hpm hg) h1.bytes h1.full).mono fun e w' hm => ?_
  unfold TookS at hm ⊢
  rw [read_perm hg hpm, goes_perm hg hpm] at hm
  exact hm
theorem Word_m {w : World} {B g : Nat} {F : Nat → Prop} {ss : List Seg} {a p : Int} (ha : I64 a) (hp : p = 0 ∨ p = 1 ∨ p = 2 ∨ p = 4) (h : Mies w B g F ss) :
    Calls Tryd.prog 69 #[.pointer (some ⟨g, 0, none⟩), .int .i64 a, .int .i64 p] w fun e w' => e = .returned (.tuple #[.int .i64 (wordS ss a p), .int .i64 (goesS ss a 8 p)]) ∧ Below w.heap.size w w' := by
  obtain ⟨A, c, rs, h1, hpm, hg, hF⟩ := h
  refine (rWord_any B g A c rs a p ha hp (dis_of hg hpm) w (seen_of h1 hpm hg) h1.bytes h1.full).mono fun e w' ⟨he, hb⟩ => ⟨?_, hb⟩
  rw [he]
  unfold wordS
  rw [read_perm hg hpm, goes_perm hg hpm]
theorem Gap_m {w : World} {B g : Nat} {F : Nat → Prop} {ss : List Seg} (n : Int) (h : Mies w B g F ss) :
    Calls Tryd.prog 82 #[.pointer (some ⟨g, 0, none⟩), .int .i64 n] w fun e w' => e = .returned (.tuple #[.int .i64 (gapA ss n).1, .int .i64 (gapA ss n).2]) ∧ Below w.heap.size w w' := by
  obtain ⟨A, c, rs, h1, hpm, hg, hF⟩ := h
  exact rGap_any g A c rs ss n hg hpm w (seen_of h1 hpm hg)
theorem Regions_m {w : World} {B g : Nat} {F : Nat → Prop} {ss : List Seg} (h : Mies w B g F ss) :
    Calls Tryd.prog 36 #[.pointer (some ⟨g, 0, none⟩)] w (Rgns w (ss.map rgS)) := by
  obtain ⟨A, c, rs, h1, hpm, hg, hF⟩ := h
  exact rRegions_any g A c rs ss hg hpm w (seen_of h1 hpm hg)
/-- An empty one. -/
theorem mies_new (w : World) (B : Nat) (hB : B ≤ w.heap.size) : Mies (w.alloc (.cells #[.slice none 0 0] 64)) B w.heap.size (fun k => k = w.heap.size) [] := by
  refine ⟨none, 0, [], ⟨hB, Bx.new w _ _, World.ownsRow_nil _ _ _ _, (by intro r hr; cases hr), (by intro r hr; cases hr), (by intro h; cases h), (by intro r hr; cases hr), List.Pairwise.nil⟩, List.Perm.refl _, good_nil, fun k => ⟨fun e => .inl e, fun e => ?_⟩⟩
  rcases e with e | e | ⟨r, hr, _⟩
  · exact e
  · cases e
  · cases hr
end Go.Proofs.YtfkhfjefddgkoaaDoor
