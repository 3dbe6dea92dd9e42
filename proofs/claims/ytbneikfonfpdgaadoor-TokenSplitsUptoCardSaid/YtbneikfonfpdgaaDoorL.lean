/-
  Split: a text's parts that are not empty.
-/
import Derived.Test.YtbneikfonfpdgaaDoorK
namespace Go.Proofs.YtbneikfonfpdgaaDoor
open Go.RowKit
attribute [local go_sem] Oper.semAt_some

theorem own_below {W W' : World} {B : Nat} {e : TypeId} {sz : Nat} {v : Value} {n : Nat} {xs : List Value} (h : W.ownsRow B e sz v n xs) (hb : Below W.heap.size W W') : W'.ownsRow B e sz v n xs := by
  refine ⟨h.1, ?_⟩
  rcases h.2 with h1 | ⟨g', cap, cur, hv, hbs, hh, hx⟩
  · exact .inl h1
  · exact .inr ⟨g', cap, cur, hv, hbs, (hb.block g' (Array.getElem?_eq_some_iff.1 hh).1).trans hh, hx⟩
theorem step_append_in {F : Fence} {n : Nat} {P : Program} {w w' : World} {ops : Array Oper} {o : Oper} {a : Act} {K : Act → World → Prop} {Q : Exit → Act → World → Prop} {E : Prop} (hgd : o.guard = none) (s x : Operand) (t : TypeId)
    (ho : o.op = .call { callee := .builtin .append, args := #[s, x], argTypes := #[t, t] }) {v u r : Value} (hs : a.eval s = v) (hx : a.eval x = u)
    (hrun : (Builtin.append_ #[t, t] o.type #[v, u]).run P w = .ok r w') (h : K (a.put o.dst r) w') :
    if Region.wanted o (yielded ops a.tmps) = true then Oper.wpIn F n P o a w K Q else E := by
  have hw : Region.wanted o (yielded ops a.tmps) = true := by simp [Region.wanted, hgd]
  rw [if_pos hw]
  unfold Oper.wpIn
  refine ⟨?_, ?_⟩
  · simp [Oper.about, ho, resolve, Target.leads, Sem.run_pure]
  · rw [Oper.semAt_plain F _ _ (by rw [ho]; intro c hc'; cases hc')]
    simp [execOp, ho, resolve, invoke, builtin, hs, hx, hrun, Result.andThen]
    exact h
theorem PS.added {w0 W w2 : World} {pre : List Str} {A : Option Addr} {c : Nat} {x : Str} (h : PS w0 pre W) (hx : x ≠ [])
    (his : Bx W w0.heap.size #[.slice A (pre.filter full).length c] 27) (hown : W.ownsRow (w0.heap.size + 4) 9 1 (.slice A (pre.filter full).length c) (pre.filter full).length (strs (pre.filter full)))
    (hl : (pre.filter full).length + 1 ≤ 1000000000001) (hb : Below W.drew.heap.size W.drew w2) :
    ∃ A' c' w4, (Builtin.append_ #[27, 27] 27 #[.slice A (pre.filter full).length c, .slice (some ⟨w2.heap.size, 0, none⟩) 1 1]).run Tryd.prog (w2.alloc (.cells #[str x] 9)) = .ok (.slice A' ((pre.filter full).length + 1) c') w4 ∧
      w2.cell? ⟨w0.heap.size, 0, none⟩ = some (.slice A (pre.filter full).length c) ∧ (w2.alloc (.cells #[str x] 9)).cell? ⟨w0.heap.size, 0, none⟩ = some (.slice A (pre.filter full).length c) ∧
      w4.cell? ⟨w0.heap.size, 0, none⟩ = some (.slice A (pre.filter full).length c) ∧ w4.frozen? ⟨w0.heap.size, 0, none⟩ = false ∧
      (PS w0 (pre ++ [x]) (w4.setCell ⟨w0.heap.size, 0, none⟩ (.slice A' ((pre.filter full).length + 1) c')) ∧ KeepsOthers W (w4.setCell ⟨w0.heap.size, 0, none⟩ (.slice A' ((pre.filter full).length + 1) c')) ∧
        ∀ k, w0.heap.size + 1 ≤ k → k < w0.heap.size + 1 + 3 → (w4.setCell ⟨w0.heap.size, 0, none⟩ (.slice A' ((pre.filter full).length + 1) c')).heap[k]? = W.heap[k]?) := by
  have hb' : Below W.heap.size W w2 := (drew_below W).trans hb
  obtain ⟨i0, hi, hz0', hz1, hz2⟩ := info_parts (show (Tryd.prog.info? 9).map (fun i => (i.zero, i.size, i.bytes)) = some (some (.string ⟨#[]⟩), 1, 16) by kernel_rfl)
  have h2 := h.below' hb'
  have his2 : Bx w2 w0.heap.size #[.slice A (pre.filter full).length c] 27 := (hb'.block _ his.lt).trans his
  have hown2 := own_below hown hb'
  have hsz2 := h2.sz
  obtain ⟨v', w4, hr, ho, hg, _, _⟩ := run_append_own_at (P := Tryd.prog) (w2.alloc (.cells #[str x] 9)) (w0.heap.size + 4) 27 27 9 i0 (.string ⟨#[]⟩) 1 16 Tryd.underlying27 hi hz0' hz1 hz2 rfl (by omega) _ _ _ (hown2.alloc _) ⟨w2.heap.size, 0, none⟩ 1 1 [str x] rfl (cells_new w2 [str x] 9) (by intro u hu; simp at hu; subst hu; rfl) (by simp only [maxLen]; omega) (by omega) (by rw [World.size_alloc]; omega)
  obtain ⟨A', c', rfl⟩ := own_slice ho
  obtain ⟨p1, p2, p3, p4, p5⟩ := h2.more hx his2 hown2 (.cells #[str x] 9) hg ho
  refine ⟨A', c', w4, hr, his2.c 0, (his2.alloc _).c 0, p4, p5, p1, ?_, fun k k1 k2 => (p3 k k1 k2).trans (hb'.block k (by have := h.sz; omega))⟩
  exact KeepsOthers.trans ⟨hb'.size, fun k o hk _ => (hb'.block k (Array.getElem?_eq_some_iff.1 hk).1).trans hk⟩ p2
set_option maxRecDepth 100000 in
set_option maxHeartbeats 4000000 in
theorem psplit_any (s : Str) (w : World) (hs : s.length ≤ 1000000000000) : Calls Tryd.prog 12 #[str s] w fun e w' => ∃ A c, e = .returned (.slice A (cuts s).length c) ∧ w'.ownsRow w.heap.size 9 1 (.slice A (cuts s).length c) (cuts s).length (strs (cuts s)) ∧ Below w.heap.size w w' := by
  refine (callsIn_wide (n := 3)).1 (callsIn_of_wp_marks Tryd.func12 rfl trivial ?_ rfl)
  simp only [Tryd.ntmps12, List.size_toArray, List.length_cons, List.length_nil, Nat.reduceAdd, Nat.reduceSub, Array.replicate_succ, Array.replicate_zero, List.push_toArray, List.append_toArray, List.nil_append, List.cons_append]
  gi_wp2_with fail
  refine ⟨trivial, (callsIn_wide.2 (seq_any s _)).mono ?_⟩
  rintro e w1 ⟨rfl, rfl⟩
  gi_wp2_with fail
  generalize hW0 : (w.alloc (.cells #[.slice none 0 0] 27)) = W0
  have hz0 : W0.heap.size = w.heap.size + 1 := by rw [← hW0]; simp
  have hlen : ∀ pre x more, spl 58 s = pre ++ x :: more → (pre.filter full).length + 1 ≤ 1000000000001 := by
    intro pre x more h
    have h1 := spl_length 58 s
    rw [h, List.length_append, List.length_cons] at h1
    have h2 : (pre.filter full).length ≤ pre.length := List.length_filter_le _ _
    omega
  have HLN := Lib.hid hlen
  have hb0 : Bx W0 w.heap.size #[.slice none 0 0] 27 := by rw [← hW0]; exact Bx.new _ _ _
  have hbel : Below w.heap.size w W0 := by rw [← hW0]; exact (Below.refl _ _).alloc (Nat.le_refl _) _
  clear hW0 hlen
  have hit : It (((W0.alloc (.cells #[str s] 9)).alloc (.cells #[.string ⟨#[58]⟩] 9)).alloc (.cells #[.int .i64 0] 3)) (w.heap.size + 1) s := by
    refine ⟨?_, ?_, ?_⟩
    · have := Bx.new W0 #[str s] 9
      rw [hz0] at this
      exact (this.alloc _).alloc _
    · have := Bx.new (W0.alloc (.cells #[str s] 9)) #[.string ⟨#[58]⟩] 9
      rw [World.size_alloc, hz0] at this
      exact this.alloc _
    · have := Bx.new ((W0.alloc (.cells #[str s] 9)).alloc (.cells #[.string ⟨#[58]⟩] 9)) #[.int .i64 0] 3
      rw [World.size_alloc, World.size_alloc, hz0] at this
      exact this
  have hI0 : ∀ r : Loop, PS w [] (((((W0.alloc (.cells #[str s] 9)).alloc (.cells #[.string ⟨#[58]⟩] 9)).alloc (.cells #[.int .i64 0] 3)).alloc (.deferred (some []))).alloc (.loop r)) := by
    intro r
    refine ⟨?_, by simp; omega, none, 0, ?_, World.ownsRow_nil _ _ _ _⟩
    · exact ((((hbel.alloc hbel.size _).alloc (by simp; omega) _).alloc (by simp; omega) _).alloc (by simp; omega) _).alloc (by simp; omega) _
    · exact ((((hb0.alloc _).alloc _).alloc _).alloc _).alloc _
  have hzz : (((W0.alloc (.cells #[str s] 9)).alloc (.cells #[.string ⟨#[58]⟩] 9)).alloc (.cells #[.int .i64 0] 3)).heap.size = w.heap.size + 4 := by simp; omega
  generalize (((W0.alloc (.cells #[str s] 9)).alloc (.cells #[.string ⟨#[58]⟩] 9)).alloc (.cells #[.int .i64 0] 3)) = W1 at *
  clear hb0 hbel
  refine range_parts 3 (by omega) (w.heap.size + 1) s (by omega) rfl rfl hit (PS w) (fun pre W v h => h.set v)
    (fun pre W l o o' hl h ho hc => h.put l o o' (by omega) ho hc) hI0 ?a1 ?assign ?body ?done
  case a1 => exact fun x => { tmps := #[str s, undef, .slice none 0 0, .pointer (some ⟨w.heap.size, 0, none⟩), str x, str s, .func (.func 32) #[] #[.pointer (some ⟨w.heap.size + 1 + 1, 0, none⟩), .pointer (some ⟨w.heap.size + 1, 0, none⟩), .pointer (some ⟨w.heap.size + 1 + 2, 0, none⟩)], str x, undef, undef, undef, undef, undef, undef, undef, undef], defers := [] }
  case assign =>
    intro l x W K hK
    gi_wp2_with fail
    exact hK
  case body =>
    intro l pre x more W h hln hxl hsz0
    have HH := Lib.hid h
    have hlen := HLN.out pre x more hln
    clear hln hit hI0
    by_cases hx : x = []
    · subst hx
      gi_wp2_with fail
      obtain ⟨A, c, h2, h3⟩ := HH.out.have_
      exact ⟨KeepsOthers.refl _, ⟨HH.out.below, HH.out.sz, A, c, by rw [filter_snoc, if_pos rfl, List.append_nil]; exact h2, by rw [filter_snoc, if_pos rfl, List.append_nil]; exact h3⟩, fun _ _ _ => rfl⟩
    · have hxe := empty_no hx
      obtain ⟨A, c, his, hown⟩ := h.have_
      obtain ⟨i0, hi, hz0', hz1, hz2⟩ := info_parts (show (Tryd.prog.info? 9).map (fun i => (i.zero, i.size, i.bytes)) = some (some (.string ⟨#[]⟩), 1, 16) by kernel_rfl)
      have c0 : W.cell? ⟨w.heap.size, 0, none⟩ = some (.slice A (pre.filter full).length c) := his.c 0
      have f0 : W.frozen? ⟨w.heap.size, 0, none⟩ = false := his.f 0
      have HIS := Lib.hid his
      have HOWN := Lib.hid hown
      have hfn : Fence.wide.fn 21 := trivial
      have hmix : Tryd.prog.follows .mixedOrders = true := by kernel_rfl
      clear h his hown
      gi_wp2_with fail
      refine wpIn_region_any hmix ?_
      change wpAnyIn _ _ _ _ _ _ _ _ _ (World.drew _)
      refine wpAnyIn_ready (rs := [0, 1]) (by kernel_rfl) (by simp) ?_
      refine AllReadyIn.cons rfl (fun K hK => ?_) (AllReadyIn.cons rfl (fun K hK => ?_) AllReadyIn.nil)
      · go_simp
        refine hK _ _ ?_
        clear hK K
        refine wpAnyIn_ready (rs := [1]) (by kernel_rfl) (by simp) ?_
        refine AllReadyIn.cons rfl (fun K hK => ?_) AllReadyIn.nil
        go_simp
        refine hK _ _ ?_
        clear hK K
        refine wpAnyIn_ready (rs := [2]) (by kernel_rfl) (by simp) ?_
        refine AllReadyIn.cons rfl (fun K hK => ?_) AllReadyIn.nil
        go_simp
        refine (CallsIn.inRound l (callsIn_wide.2 (sclone_any x _ (by omega)))).mono ?_
        rintro e w2 ⟨rfl, hb2⟩
        obtain ⟨A4, c4, w4, hrun, k1, k2, k3, j3, hfin⟩ := HH.out.added hx HIS.out HOWN.out (by omega) hb2
        have HF := Lib.hid hfin
        clear hb2 hfin
        go_simp
        refine hK _ _ ?_
        clear hK K
        refine wpAnyIn_ready (rs := [3]) (by kernel_rfl) (by simp) ?_
        refine AllReadyIn.cons rfl (fun K hK => ?_) AllReadyIn.nil
        go_simp
        refine hK _ _ ?_
        clear hK K
        refine wpAnyIn_ready (rs := [4]) (by kernel_rfl) (by simp) ?_
        refine AllReadyIn.cons rfl (fun K hK => ?_) AllReadyIn.nil
        refine step_append_in rfl (.tmp 10) (.tmp 13) 27 rfl rfl rfl hrun ?_
        refine hK _ _ ?_
        clear hK K
        clear hrun
        refine wpAnyIn_ready (rs := [5]) (by kernel_rfl) (by simp) ?_
        refine AllReadyIn.cons rfl (fun K hK => ?_) AllReadyIn.nil
        go_simp
        refine hK _ _ ?_
        clear hK K
        refine wpAnyIn_done (by kernel_rfl) ?_ _
        exact ⟨HF.out.2.1, HF.out.1, HF.out.2.2⟩
      · go_simp
        refine hK _ _ ?_
        clear hK K
        refine wpAnyIn_ready (rs := [0, 2]) (by kernel_rfl) (by simp) ?_
        refine AllReadyIn.cons rfl (fun K hK => ?_) (AllReadyIn.cons rfl (fun K hK => ?_) AllReadyIn.nil)
        · go_simp
          refine hK _ _ ?_
          clear hK K
          refine wpAnyIn_ready (rs := [2]) (by kernel_rfl) (by simp) ?_
          refine AllReadyIn.cons rfl (fun K hK => ?_) AllReadyIn.nil
          go_simp
          refine (CallsIn.inRound l (callsIn_wide.2 (sclone_any x _ (by omega)))).mono ?_
          rintro e w2 ⟨rfl, hb2⟩
          obtain ⟨A4, c4, w4, hrun, k1, k2, k3, j3, hfin⟩ := HH.out.added hx HIS.out HOWN.out (by omega) hb2
          have HF := Lib.hid hfin
          clear hb2 hfin
          go_simp
          refine hK _ _ ?_
          clear hK K
          refine wpAnyIn_ready (rs := [3]) (by kernel_rfl) (by simp) ?_
          refine AllReadyIn.cons rfl (fun K hK => ?_) AllReadyIn.nil
          go_simp
          refine hK _ _ ?_
          clear hK K
          refine wpAnyIn_ready (rs := [4]) (by kernel_rfl) (by simp) ?_
          refine AllReadyIn.cons rfl (fun K hK => ?_) AllReadyIn.nil
          refine step_append_in rfl (.tmp 10) (.tmp 13) 27 rfl rfl rfl hrun ?_
          refine hK _ _ ?_
          clear hK K
          clear hrun
          refine wpAnyIn_ready (rs := [5]) (by kernel_rfl) (by simp) ?_
          refine AllReadyIn.cons rfl (fun K hK => ?_) AllReadyIn.nil
          go_simp
          refine hK _ _ ?_
          clear hK K
          refine wpAnyIn_done (by kernel_rfl) ?_ _
          exact ⟨HF.out.2.1, HF.out.1, HF.out.2.2⟩
        · go_simp
          refine (CallsIn.inRound l (callsIn_wide.2 (sclone_any x _ (by omega)))).mono ?_
          rintro e w2 ⟨rfl, hb2⟩
          obtain ⟨A4, c4, w4, hrun, k1, k2, k3, j3, hfin⟩ := HH.out.added hx HIS.out HOWN.out (by omega) hb2
          have HF := Lib.hid hfin
          clear hb2 hfin
          go_simp
          refine hK _ _ ?_
          clear hK K
          refine wpAnyIn_ready (rs := [0, 3]) (by kernel_rfl) (by simp) ?_
          refine AllReadyIn.cons rfl (fun K hK => ?_) (AllReadyIn.cons rfl (fun K hK => ?_) AllReadyIn.nil)
          · go_simp
            refine hK _ _ ?_
            clear hK K
            refine wpAnyIn_ready (rs := [3]) (by kernel_rfl) (by simp) ?_
            refine AllReadyIn.cons rfl (fun K hK => ?_) AllReadyIn.nil
            go_simp
            refine hK _ _ ?_
            clear hK K
            refine wpAnyIn_ready (rs := [4]) (by kernel_rfl) (by simp) ?_
            refine AllReadyIn.cons rfl (fun K hK => ?_) AllReadyIn.nil
            refine step_append_in rfl (.tmp 10) (.tmp 13) 27 rfl rfl rfl hrun ?_
            refine hK _ _ ?_
            clear hK K
            clear hrun
            refine wpAnyIn_ready (rs := [5]) (by kernel_rfl) (by simp) ?_
            refine AllReadyIn.cons rfl (fun K hK => ?_) AllReadyIn.nil
            go_simp
            refine hK _ _ ?_
            clear hK K
            refine wpAnyIn_done (by kernel_rfl) ?_ _
            exact ⟨HF.out.2.1, HF.out.1, HF.out.2.2⟩
          · go_simp
            refine hK _ _ ?_
            clear hK K
            refine wpAnyIn_ready (rs := [0]) (by kernel_rfl) (by simp) ?_
            refine AllReadyIn.cons rfl (fun K hK => ?_) AllReadyIn.nil
            go_simp
            refine hK _ _ ?_
            clear hK K
            refine wpAnyIn_ready (rs := [4]) (by kernel_rfl) (by simp) ?_
            refine AllReadyIn.cons rfl (fun K hK => ?_) AllReadyIn.nil
            refine step_append_in rfl (.tmp 10) (.tmp 13) 27 rfl rfl rfl hrun ?_
            refine hK _ _ ?_
            clear hK K
            clear hrun
            refine wpAnyIn_ready (rs := [5]) (by kernel_rfl) (by simp) ?_
            refine AllReadyIn.cons rfl (fun K hK => ?_) AllReadyIn.nil
            go_simp
            refine hK _ _ ?_
            clear hK K
            refine wpAnyIn_done (by kernel_rfl) ?_ _
            exact ⟨HF.out.2.1, HF.out.1, HF.out.2.2⟩
  case done =>
    intro D W hD h hK
    have HH := Lib.hid h
    obtain ⟨A, c, h2, h3⟩ := h.have_
    have c0 : W.cell? ⟨w.heap.size, 0, none⟩ = some (.slice A (cuts s).length c) := h2.c 0
    have HO := Lib.hid (show W.ownsRow (w.heap.size + 4) 9 1 (.slice A (cuts s).length c) (cuts s).length (strs (cuts s)) from h3)
    clear h h2 h3 hit hI0
    gi_wp2_with fail
    refine ⟨by simp, .inl ⟨_, _, rfl, run_takeDeferred hK, ?_⟩⟩
    have hb4 := HH.out.below.grown (grownBy_putObj' W D (.deferred none)) HH.out.below.size (fun k hk => by cases hk; omega)
    have ho4 := own_more (ownsRow_putObj HO.out (.deferred none) hK rfl) (B' := w.heap.size) (by omega)
    generalize W.putObj D (.deferred none) = W4 at *
    refine ⟨.slice A (cuts s).length c, by simp [results, Tryd.results12, go_sem], A, c, rfl, ho4, hb4⟩
end Go.Proofs.YtbneikfonfpdgaaDoor
