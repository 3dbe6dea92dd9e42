/- A part of the proof. -/
import Derived.Test.YtfljignkjmabpaaGreatZTE
set_option linter.unusedSimpArgs false
set_option linter.unusedVariables false
namespace Go.Proofs.YtfljignkjmabpaaGreat
set_option maxRecDepth 100000
open Go.RowKit
theorem str_cells (l : List UInt8) : Lib.strCells ⟨l.toArray⟩ = cells l := by
 simp [Lib.strCells, cells, u8]
theorem run_append_str_at {P : Program} {w : World} (base : Nat) (t u ty e : TypeId) (i : TypeInfo) (ht : P.underlying t = some (.slice e)) (hu : P.underlying u = some .string) (hi : P.info? e = some i) (hz : i.zero = some (.int .u8 0))
  (hsize : i.size = 1) (hby : i.bytes = 1) (A : Option Addr) (n c : Nat) (xs : List Value) (hown : w.ownsRow base e 1 (.slice A n c) n xs) (l : List UInt8)
  (hb : n + l.length ≤ 140737488355328) (hbase : base ≤ w.heap.size) :
  ∃ A' c' w', (Builtin.append_ #[t, u] ty #[.slice A n c, .string ⟨l.toArray⟩]).run P w = .ok (.slice A' (n + l.length) c') w' ∧ w'.ownsRow base e 1 (.slice A' (n + l.length) c') (n + l.length) (xs ++ cells l) ∧
   w.grownBy w' (Value.slice A n c).ownBlock ∧ (row A' = row A ∨ ∃ k, w.heap.size ≤ k ∧ row A' = some k) := by
 have hs : (⟨l.toArray⟩ : ByteArray).size = l.length := rfl
 obtain ⟨v', w', hr, ho, hg, hn⟩ := Lib.run_append_own_string (P := P) w base t u ty e i ht hu hi hz hsize hby (.slice A n c) n xs hown ⟨l.toArray⟩ (by rw [hs]; simp only [maxLen]; omega) (by rw [hs]; omega) hbase
 rw [hs, str_cells] at ho
 obtain ⟨A', c', rfl⟩ := own_slice ho
 refine ⟨A', c', w', hr, ho, hg, ?_⟩
 rcases hown.2 with ⟨h1, rfl⟩ | ⟨g, cap, cur, h1, hbg, hh, hnc, hcm, hcs, htake⟩
 ·
  injection h1 with h1 _ h2
  subst h1 h2
  have hx0 : xs = [] := List.eq_nil_of_length_eq_zero (by have := hown.1; omega)
  obtain ⟨v2, w2, hr2, ho2, _, _⟩ := Lib.run_append_own_string (P := P) w w.heap.size t u ty e i ht hu hi hz hsize hby (.slice none 0 0) 0 [] (World.ownsRow_nil _ _ _ _) ⟨l.toArray⟩ (by rw [hs]; simp only [maxLen]; omega) (by rw [hs]; omega) (Nat.le_refl _)
  rw [hr] at hr2
  injection hr2 with e1 e2
  subst e1 e2
  cases A' with
  | none => exact .inl rfl
  | some a => exact .inr ⟨a.block, (ho2.lt a.block rfl).1, rfl⟩
 ·
  injection h1 with h1 _ h2
  subst h1 h2
  by_cases hroom : n + l.length ≤ c
  ·
   have hr2 := Lib.run_append_room_string (P := P) w t u ty e i ht hu hi hsize g n c cur hh ⟨l.toArray⟩ hroom (by rw [hs, hcs]; omega)
   rw [hr] at hr2
   injection hr2 with e1 e2
   injection e1 with e1
   subst e1
   exact .inl rfl
  ·
   have holds : ∀ j u, xs[j]? = some u → w.cell? ((⟨g, 0, none⟩ : Addr).add j) = some u := hown.cells (g := g) rfl
   have hr2 := Lib.run_append_grow_string (P := P) w t u ty e i (.int .u8 0) ht hu hi hz ⟨g, 0, none⟩ n c xs (by rw [hsize]; simpa using hown.1) holds ⟨l.toArray⟩ (by rw [hs]; omega) (by rw [hs]; omega) (by rw [hs, hby]; exact growslice_fits (by omega) (by omega))
   rw [hr] at hr2
   injection hr2 with e1 e2
   injection e1 with e1
   subst e1
   exact .inr ⟨w.heap.size, Nat.le_refl _, rfl⟩
theorem step_append_str {P : Program} {w : World} {ops : Array Oper} {o : Oper} {a : Act} {K : Act → World → Prop} {Q : Exit → Act → World → Prop} {E : Prop} (hgd : o.guard = none) (s x : Operand) (t u : TypeId)
  (ho : o.op = .call { callee := .builtin .append, args := #[s, x], argTypes := #[t, u] })
  (base : Nat) (e : TypeId) (i : TypeInfo) (ht : P.underlying t = some (.slice e)) (hu : P.underlying u = some .string) (hi : P.info? e = some i) (hz : i.zero = some (.int .u8 0))
  (hsize : i.size = 1) (hby : i.bytes = 1) (A : Option Addr) (n c : Nat) (xs : List Value) (hs : a.eval s = .slice A n c) (hown : w.ownsRow base e 1 (.slice A n c) n xs) (l : List UInt8) (hx : a.eval x = .string ⟨l.toArray⟩)
  (hb : n + l.length ≤ 140737488355328) (hbase : base ≤ w.heap.size)
  (h : ∀ A' c' w', w'.ownsRow base e 1 (.slice A' (n + l.length) c') (n + l.length) (xs ++ cells l) → w.grownBy w' (Value.slice A n c).ownBlock → (row A' = row A ∨ ∃ k, w.heap.size ≤ k ∧ row A' = some k) → K (a.put o.dst (.slice A' (n + l.length) c')) w') :
  if Region.wanted o (yielded ops a.tmps) = true then Oper.wp P o a w K Q else E := by
 have hw : Region.wanted o (yielded ops a.tmps) = true := by simp [Region.wanted, hgd]
 rw [if_pos hw]
 obtain ⟨A', c', w', hr, h1, h2, h3⟩ := run_append_str_at (P := P) (w := w) base t u o.type e i ht hu hi hz hsize hby A n c xs hown l hb hbase
 unfold Oper.wp execOp
 simp only [ho, resolve, invoke, builtin, Sem.run_bind, Sem.run_pure, Result.andThen_ok, List.map_toArray, List.map_cons, List.map_nil, hs, hx, hr]
 exact h A' c' w' h1 h2 h3
theorem wNums_err (size : Nat) (ns : List Int) : ∀ s : St, s.1 ≠ 0 → wNums size ns s = s := by
 induction ns with
 | nil => intro s _; rfl
 | cons n ns ih =>
  intro s h
  have e : wNum1 size n s = s := by unfold wNum1; rw [if_neg h]
  have : wNums size (n :: ns) s = wNums size ns (wNum1 size n s) := rfl
  rw [this, e]
  exact ih s h
theorem wNums_stop (size : Nat) (ns : List Int) (k : Nat) (s : St) (h : (wNums size (ns.take k) s).1 ≠ 0) : wNums size ns s = wNums size (ns.take k) s := by
 have e : ns = ns.take k ++ ns.drop k := (List.take_append_drop k ns).symm
 conv => lhs; rw [e]
 unfold wNums at *
 rw [List.foldl_append]
 exact wNums_err size _ _ h
theorem wTexts_err (ss : List (List UInt8)) : ∀ s : St, s.1 ≠ 0 → wTexts ss s = s := by
 induction ss with
 | nil => intro s _; rfl
 | cons l ss ih =>
  intro s h
  have e : wMeas 2 4096 l s = s := by unfold wMeas; rw [if_neg h]
  have : wTexts (l :: ss) s = wTexts ss (wMeas 2 4096 l s) := rfl
  rw [this, e]
  exact ih s h
theorem wTexts_stop (ss : List (List UInt8)) (k : Nat) (s : St) (h : (wTexts (ss.take k) s).1 ≠ 0) : wTexts ss s = wTexts (ss.take k) s := by
 have e : ss = ss.take k ++ ss.drop k := (List.take_append_drop k ss).symm
 conv => lhs; rw [e]
 unfold wTexts at *
 rw [List.foldl_append]
 exact wTexts_err _ _ h
theorem Wm.below' {w w' : World} {B g : Nat} {e : Int} {A : Option Addr} {c : Nat} {bs : List UInt8} (h : Wm w B g e A c bs) (hb : Below w.drew.heap.size w.drew w') : Wm w' B g e A c bs := h.drew.below hb
set_option maxHeartbeats 1000000 in
theorem vnum_err (B g : Nat) (e : Int) (bs : List UInt8) (A : Option Addr) (c : Nat) (size : Int) (An : Option Addr) (n cn : Nat) (w : World) (h : Wm w B g e A c bs) (he : e ≠ 0) (hnn : n ≤ 140737488355328) :
  Calls Tryz.prog 71 #[.pointer (some ⟨g, 0, none⟩), .int .i64 size, .slice An n cn] w (WroteM w B g A e bs) := by
 have hc0 := h.cell1
 have hb : (e == 0) = false := by simpa using he
 have H := hD h
 clear h he
 go_enter Tryz.func71, Tryz.ntmps71
 go_wp2_with fail
 go_loopw [6] (fun i wr => i = .int .i64 0 ∧ wr = w) (fun i _ => n - (intOf i).toNat)
 case atStart => exact ⟨rfl, rfl⟩
 case round =>
  obtain ⟨rfl, rfl⟩ := hrel
  by_cases hlt : 0 < n
  ·
   go_wp2
   go_end0
   exact ⟨rfl, A, c, H.out, Step.refl _ _ _⟩
  ·
   obtain rfl : n = 0 := by omega
   go_wp2
   go_end0
   exact ⟨rfl, A, c, H.out, Step.refl _ _ _⟩
set_option maxHeartbeats 2000000 in
theorem vnum_ok (B g : Nat) (bs : List UInt8) (A : Option Addr) (c : Nat) (size : Nat) (An : Option Addr) (n cn : Nat) (ns : List Int) (w : World) (h : Wm w B g 0 A c bs) (hs : sized size = true)
  (hx : Src w (fun k => k ≠ g ∧ row A ≠ some k) An n cn (ints ns)) (hn : bs.length + 8 * n ≤ 140737488355328) :
  Calls Tryz.prog 71 #[.pointer (some ⟨g, 0, none⟩), .int .i64 size, .slice An n cn] w (WroteM w B g A (wNums size ns (0, bs)).1 (wNums size ns (0, bs)).2) := by
 obtain ⟨i0, hi, hz0, hz1, hz2⟩ := info_parts Tryz.info_byte
 have h8 : size ≤ 8 ∧ 0 < size := by simp only [sized, decide_eq_true_eq] at hs; omega
 have hl : ns.length = n := by have := hx.len; simpa [ints] using this
 have hc0 := h.cell1
 have HL := hD hl
 have H := hD h
 have HS := hD hs
 have HX := hD hx
 clear h hs hx hl
 go_enter Tryz.func71, Tryz.ntmps71
 go_wp2_with (go_at_call 139; refine (sizedR_any size _).mono ?_; rw [HS.out]; rintro e w' ⟨rfl, rfl⟩)
 go_loopw [6] (fun i wr => ∃ k : Nat, k ≤ n ∧ i = .int .i64 k ∧ AtM w B g A (wNums size (ns.take k) (0, bs)).1 (wNums size (ns.take k) (0, bs)).2 wr) (fun i _ => n - (intOf i).toNat)
 case atStart => exact ⟨0, Nat.zero_le _, rfl, A, c, H.out, Step.refl _ _ _⟩
 case round =>
  obtain ⟨k, hk, rfl, A2, c2, hw2, hst2⟩ := hrel
  by_cases hlt : k < n
  ·
   have hkl : k < ns.length := by rw [HL.out]; exact hlt
   have hbl := wNums_len size (ns.take k) h8.1 (0, bs)
   rw [List.length_take, Nat.min_eq_left (by omega)] at hbl
   have hsn := wNums_snoc size ns k hkl (0, bs)
   have hstop := wNums_stop size ns k (0, bs)
   generalize hsk : wNums size (ns.take k) (0, bs) = sk at *
   obtain ⟨ek, bk⟩ := sk
   have hce := hw2.cell1
   have hcb := hw2.cell0
   have hsf := hw2.soft 0
   have hsf1 := hw2.soft 1
   simp only at hce hcb hbl hsf hsf1 hstop
   by_cases he : ek = 0
   ·
    subst he
    obtain ⟨ad, rfl⟩ : ∃ ad, An = some ad := by
     cases An with
     | none => have := (HX.out.nil rfl).1; omega
     | some ad => exact ⟨ad, rfl⟩
    have hcell : wr.cell? (ad.add k) = some (.int .i64 ns[k]) := (HX.out.step hst2).at_ ad rfl k _ (by simp [ints, List.getElem?_eq_getElem hkl])
    have hcap := HX.out.cap
    have HST := hD hst2
    have HW2 := hD hw2
    clear hstop hst2 hw2 hsk
    by_cases hf : fitB size ns[k] = true
    ·
     have e1 : wNum1 size ns[k] (0, bk) = (0, bk ++ digs ns[k] size) := by unfold wNum1; rw [if_pos rfl, if_pos hf]
     have HSN := hD (hsn.trans e1)
     have HF := hD hf
     have HD := hD (digits_any size ns[k] wr.drew h8.1)
     clear hsn e1 hf
     go_wp2_with (go_at_call 152; refine (fitsR_any size _ _ HS.out).mono ?_; rw [HF.out]; rintro e w' ⟨rfl, rfl⟩)
     have h1d := cells_one (digs ns[k] size)
     have hkn : bk.length + size ≤ 140737488355328 := by omega
     go_region_law (first
      | (go_simp; go_at_call 151; refine HD.out.mono ?_; rintro en w3 ⟨A4, c4, rfl, hown4, hb4⟩; obtain ⟨gd, rfl, hnews⟩ := digs_src hown4 h8.2; have hw3 := HW2.out.below' hb4; have hcb3 := hw3.cell0; have HW3 := hD hw3; have HN := hD hnews; have HB4 := hD hb4; clear hown4 hnews hw3 hb4)
      | (refine step_append_lies _ rfl (.tmp 43) (.tmp 49) 22 rfl B 5 i0 (.int .u8 0) 1 1 Tryz.underlying22 hi hz0 hz1 hz2 rfl (by decide) (.slice A2 bk.length c2) bk.length (cells bk) rfl HW3.out.own ⟨gd, 0, none⟩ size c4 (cells (digs ns[k] size)) rfl (by rw [cells_len, digs_len, Nat.mul_one]) HN.out h1d h8.2 (by simp only [maxLen]; omega) (by omega) HW3.out.base w3.heap.size rfl ?_; intro g5 c5 w5 hown hgr hat hlt5; obtain ⟨q1, q2⟩ := HW3.out.grownCell hgr _ rfl))
     all_goals
      obtain ⟨hw6, hst6⟩ := HW3.out.put _ rfl size (digs_len _ _) hown hgr (atRow' hat)
      have hst := (((HST.out.trans (Step.below (drew_below wr) (row A2))).trans (Step.below HB4.out (row A2))).trans hst6)
      generalize w5.setCell ⟨g, 0, none⟩ (.slice (some ⟨g5, 0, none⟩) (bk.length + size) c5) = w6 at *
      have HW6 := hD hw6
      have HST6 := hD hst
      clear hown hgr hat hlt5 q1 q2 hw6 hst6 hst
      go_wp2_with fail
      go_roundw
      case rel => exact ⟨k + 1, by omega, by go_num, by rw [HSN.out]; exact ⟨_, c5, HW6.out, HST6.out⟩⟩
      case measure => simp [intOf]; omega
    ·
     have e1 : wNum1 size ns[k] (0, bk) = (10, bk) := by unfold wNum1; rw [if_pos rfl, if_neg hf]
     have HSN := hD (hsn.trans e1)
     have HF := hD (show fitB size ns[k] = false by simpa using hf)
     clear hsn e1 hf
     go_wp2_with (go_at_call 152; refine (fitsR_any size _ _ HS.out).mono ?_; rw [HF.out]; rintro e w' ⟨rfl, rfl⟩)
     refine ⟨⟨k + 1, by omega, by go_num, ?_⟩, by simp [intOf]; omega⟩
     rw [HSN.out]
     exact AtM.trans HST.out (HW2.out.fail 10)
   ·
    have hb : (ek == 0) = false := by simpa using he
    have hfin := hstop he
    have HFN := hD hfin
    have HST := hD hst2
    have HW2 := hD hw2
    have HE := hD he
    clear hst2 hw2 hfin hstop hsn hsk he
    go_wp2_with fail
    go_end0
    refine ⟨rfl, ?_⟩
    rw [HFN.out]
    exact ⟨A2, c2, HW2.out, HST.out⟩
  ·
   obtain rfl : k = n := by omega
   have HW := hD hw2
   have HST := hD hst2
   clear hw2 hst2
   go_wp2
   go_end0
   have : ns.take k = ns := List.take_of_length_le (by rw [HL.out]; exact Nat.le_refl _)
   have hw := HW.out
   rw [this] at hw
   exact ⟨rfl, A2, c2, hw, HST.out⟩
end Go.Proofs.YtfljignkjmabpaaGreat
namespace Go.Proofs.YtfljignkjmabpaaGreat
set_option maxRecDepth 100000
open Go.RowKit
structure Rws (w : World) (P : Nat → Prop) (A : Option Addr) (n c : Nat) (f : Nat → List Int) : Prop where
 nil : A = none → n = 0 ∧ c = 0
 cap : n ≤ c
 blk : ∀ ad, A = some ad → 0 < n → P ad.block
 at_ : ∀ ad, A = some ad → ∀ k, k < n → ∃ Ai ci, w.cell? (ad.add k) = some (.slice Ai (f k).length ci) ∧ Src w P Ai (f k).length ci (il (f k))
section
variable {w w' : World} {P Q : Nat → Prop} {A : Option Addr} {n c : Nat} {f : Nat → List Int}
theorem Rws.keep (h : Rws w P A n c f) (hk : ∀ k, P k → k < w.heap.size → w'.heap[k]? = w.heap[k]?) : Rws w' P A n c f :=
 ⟨h.nil, h.cap, h.blk, fun ad hA k hkn => by
  obtain ⟨Ai, ci, h1, h2⟩ := h.at_ ad hA k hkn
  refine ⟨Ai, ci, ?_, h2.keep hk⟩
  have hb := h.blk ad hA (by omega)
  rw [World.cell?_of_block (hk _ (by rw [addBlock]; exact hb) (World.block_lt_of_cell? w _ h1))]
  exact h1⟩
theorem Rws.weak (h : Rws w P A n c f) (hk : ∀ k, P k → Q k) : Rws w Q A n c f := ⟨h.nil, h.cap, fun ad hA hn => hk _ (h.blk ad hA hn), fun ad hA k hkn => by
 obtain ⟨Ai, ci, h1, h2⟩ := h.at_ ad hA k hkn
 exact ⟨Ai, ci, h1, h2.weak hk⟩⟩
theorem Rws.lt (h : Rws w (fun k => k < w.heap.size) A n c f) (hb : Below w.heap.size w w') : Rws w' (fun k => k < w'.heap.size) A n c f :=
 (h.keep fun k hk _ => hb.block k hk).weak fun _ hk => Nat.lt_of_lt_of_le hk hb.size
end
theorem Bks.rws {w : World} {B g n : Nat} {f : Nat → List Int} {s : Nat → Option Addr × Nat} (h : Bks w B g n f s) : Rws w (fun k => B ≤ k ∧ k < w.heap.size) (some ⟨g, 0, none⟩) n n f :=
 ⟨(by intro h; cases h), Nat.le_refl _, fun ad hA _ => by cases hA; exact h.out.lt g rfl, fun ad hA k hk => by
  cases hA
  refine ⟨(s k).1, (s k).2, ?_, (Src.of_own (h.own k hk)).weak fun q hq => hq.2⟩
  rw [plainAdd, Nat.zero_add, h.out.cellAt k (by omega), slvs_get hk]⟩
structure TabV (w : World) (P : Nat → Prop) (A : Option Addr) (n c : Nat) (Af : Option Addr) (cf : Nat) (f : Nat → List Int) (L : List UInt64) : Prop where
 rows : Rws w P A n c f
 words : Src w P Af L.length cf (Siv.wds L)
theorem TabV.keep {w w' : World} {P : Nat → Prop} {A Af : Option Addr} {n c cf : Nat} {f : Nat → List Int} {L : List UInt64} (h : TabV w P A n c Af cf f L) (hk : ∀ k, P k → k < w.heap.size → w'.heap[k]? = w.heap[k]?) : TabV w' P A n c Af cf f L := ⟨h.rows.keep hk, h.words.keep hk⟩
theorem TabV.weak {w : World} {P Q : Nat → Prop} {A Af : Option Addr} {n c cf : Nat} {f : Nat → List Int} {L : List UInt64} (h : TabV w P A n c Af cf f L) (hk : ∀ k, P k → Q k) : TabV w Q A n c Af cf f L := ⟨h.rows.weak hk, h.words.weak hk⟩
theorem TabV.lt {w w' : World} {A Af : Option Addr} {n c cf : Nat} {f : Nat → List Int} {L : List UInt64} (h : TabV w (fun k => k < w.heap.size) A n c Af cf f L) (hb : Below w.heap.size w w') : TabV w' (fun k => k < w'.heap.size) A n c Af cf f L :=
 ⟨h.rows.lt hb, (h.words.keep fun k hk _ => hb.block k hk).weak fun _ hk => Nat.lt_of_lt_of_le hk hb.size⟩
def goF (r : Sym) (ss : List Sym) (v : Bool) : List Int → Nat → Int × Nat
 | [], e => (-1, e)
 | i :: l, e => if i < 0 ∨ (ss.length : Int) ≤ i then goF r ss v l e else if (match ss[i.toNat]? with | some d => matchB r d v | none => false) = true then (i, e + 1) else goF r ss v l (e + 1)
def findT (n : Nat) (f : Nat → List Int) (L : List UInt64) (sh : Int) (r : Sym) (ss : List Sym) : Int × Nat :=
 if n = 0 ∨ Siv.lacksB L sh (hashS r.name) = true then (-1, 0) else goF r ss (ss.any vdB) (f (bkt (hashS r.name) n)) 0
end Go.Proofs.YtfljignkjmabpaaGreat
namespace Go.Proofs.YtfljignkjmabpaaGreat
set_option maxRecDepth 100000
open Go.RowKit
structure Sg where
 at_ : Int
 size : Int
 bs : Str
 perm : Int
structure Nd where
 name : Str
 vers : List Str
structure Rl where
 at_ : Int
 kind : Int
 sym : Int
 add : Int
structure Sl where
 at_ : Int
 sym : Int
 stub : Int
structure Im where
 name : Str
 flags : Int
 segs : List Sg
 needed : List Nd
 run : List Str
 syms : List Sym
 rows : List (List Int)
 words : List UInt64
 shift : Int
 relocs : List Rl
 slots : List Sl
 init : List Int
 fini : List Int
 tls : Str
 tlsSize : Int
def noSg : Sg := ⟨0, 0, [], 0⟩
def noNd : Nd := ⟨[], []⟩
def noRl : Rl := ⟨0, 0, 0, 0⟩
def noSl : Sl := ⟨0, 0, 0⟩
abbrev sgA (s : Sg) (p : Option Addr × Nat) : Array Value := #[.int .i64 s.at_, .int .i64 s.size, .slice p.1 s.bs.length p.2, .int .i64 s.perm]
abbrev ndA (s : Nd) (p : Option Addr × Nat) : Array Value := #[str s.name, .slice p.1 s.vers.length p.2]
abbrev rlA (r : Rl) : Array Value := #[.int .i64 r.at_, .int .i64 r.kind, .int .i64 r.sym, .int .i64 r.add]
abbrev slA (r : Sl) : Array Value := #[.int .i64 r.at_, .int .i64 r.sym, .int .i64 r.stub]
structure Els (w : World) (P : Nat → Prop) (A : Option Addr) (n c sz : Nat) (E : Nat → Array Value) : Prop where
 nil : A = none → n = 0 ∧ c = 0
 cap : n ≤ c
 blk : ∀ ad, A = some ad → 0 < n → P ad.block
 at_ : ∀ ad, A = some ad → ∀ k, k < n → ∀ j u, (E k)[j]? = some u → w.cell? (ad.add (k * sz + j)) = some u
section
variable {w w' : World} {P Q : Nat → Prop} {A : Option Addr} {n c sz : Nat} {E : Nat → Array Value}
theorem Els.keep (h : Els w P A n c sz E) (hk : ∀ k, P k → k < w.heap.size → w'.heap[k]? = w.heap[k]?) : Els w' P A n c sz E :=
 ⟨h.nil, h.cap, h.blk, fun ad hA k hk' j u hu => by
  have h0 := h.at_ ad hA k hk' j u hu
  have hb := h.blk ad hA (by omega)
  have hh := World.block_lt_of_cell? w _ h0
  rw [addBlock] at hh
  exact (World.cell?_of_block (w := w) (w' := w') (by rw [addBlock]; exact hk _ hb hh)).trans h0⟩
theorem Els.weak (h : Els w P A n c sz E) (hk : ∀ k, P k → Q k) : Els w Q A n c sz E := ⟨h.nil, h.cap, fun ad hA hn => hk _ (h.blk ad hA hn), h.at_⟩
theorem Els.below {B : Nat} (h : Els w P A n c sz E) (hb : Below B w w') (hP : ∀ k, P k → k < B) : Els w' P A n c sz E :=
 h.keep fun k hk _ => hb.block k (hP k hk)
theorem Els.lt (h : Els w (fun k => k < w.heap.size) A n c sz E) (hb : Below w.heap.size w w') : Els w' (fun k => k < w'.heap.size) A n c sz E :=
 (h.keep fun k hk _ => hb.block k hk).weak fun _ hk => Nat.lt_of_lt_of_le hk hb.size
theorem Els.plain {ad : Addr} (h : Els w P (some ad) n c sz E) (h0 : 0 < n) {u : Value} (hu : (E 0)[0]? = some u) : ∃ b o, ad = ⟨b, o, none⟩ := by
 obtain ⟨b, o, spot⟩ := ad
 have hs : spot = none := by
  have h0 := World.cell?_spot (h.at_ _ rfl 0 h0 0 _ hu)
  simpa [Addr.add] using h0
 subst hs
 exact ⟨b, o, rfl⟩
theorem Els.get {b o : Nat} (h : Els w P (some ⟨b, o, none⟩) n c sz E) (k : Nat) (hk : k < n) (j : Nat) (u : Value) (hu : (E k)[j]? = some u) : w.cell? ⟨b, o + k * sz + j, none⟩ = some u := by
 have := h.at_ _ rfl k hk j u hu
 rwa [plainAdd, ← Nat.add_assoc] at this
end
structure Sgs (w : World) (P : Nat → Prop) (A : Option Addr) (n c : Nat) (ss : List Sg) : Prop where
 len : ss.length = n
 ex : ∃ B : Nat → Option Addr × Nat, Els w P A n c 4 (fun k => sgA (ss.getD k noSg) (B k)) ∧ ∀ k, k < n → Src w P (B k).1 (ss.getD k noSg).bs.length (B k).2 (cells (ss.getD k noSg).bs)
structure Nds (w : World) (P : Nat → Prop) (A : Option Addr) (n c : Nat) (ss : List Nd) : Prop where
 len : ss.length = n
 ex : ∃ B : Nat → Option Addr × Nat, Els w P A n c 2 (fun k => ndA (ss.getD k noNd) (B k)) ∧ ∀ k, k < n → Src w P (B k).1 (ss.getD k noNd).vers.length (B k).2 (strs (ss.getD k noNd).vers)
structure Rls (w : World) (P : Nat → Prop) (A : Option Addr) (n c : Nat) (ss : List Rl) : Prop where
 len : ss.length = n
 els : Els w P A n c 4 (fun k => rlA (ss.getD k noRl))
structure Sls (w : World) (P : Nat → Prop) (A : Option Addr) (n c : Nat) (ss : List Sl) : Prop where
 len : ss.length = n
 els : Els w P A n c 3 (fun k => slA (ss.getD k noSl))
section
variable {w w' : World} {P Q : Nat → Prop} {A : Option Addr} {n c : Nat}
theorem Sgs.keep {ss : List Sg} (h : Sgs w P A n c ss) (hk : ∀ k, P k → k < w.heap.size → w'.heap[k]? = w.heap[k]?) : Sgs w' P A n c ss := by
 obtain ⟨hl, B, h1, h2⟩ := h
 exact ⟨hl, B, h1.keep hk, fun k hk' => (h2 k hk').keep hk⟩
theorem Sgs.weak {ss : List Sg} (h : Sgs w P A n c ss) (hk : ∀ k, P k → Q k) : Sgs w Q A n c ss := by
 obtain ⟨hl, B, h1, h2⟩ := h
 exact ⟨hl, B, h1.weak hk, fun k hk' => (h2 k hk').weak hk⟩
theorem Nds.keep {ss : List Nd} (h : Nds w P A n c ss) (hk : ∀ k, P k → k < w.heap.size → w'.heap[k]? = w.heap[k]?) : Nds w' P A n c ss := by
 obtain ⟨hl, B, h1, h2⟩ := h
 exact ⟨hl, B, h1.keep hk, fun k hk' => (h2 k hk').keep hk⟩
theorem Nds.weak {ss : List Nd} (h : Nds w P A n c ss) (hk : ∀ k, P k → Q k) : Nds w Q A n c ss := by
 obtain ⟨hl, B, h1, h2⟩ := h
 exact ⟨hl, B, h1.weak hk, fun k hk' => (h2 k hk').weak hk⟩
theorem Rls.keep {ss : List Rl} (h : Rls w P A n c ss) (hk : ∀ k, P k → k < w.heap.size → w'.heap[k]? = w.heap[k]?) : Rls w' P A n c ss := ⟨h.len, h.els.keep hk⟩
theorem Rls.weak {ss : List Rl} (h : Rls w P A n c ss) (hk : ∀ k, P k → Q k) : Rls w Q A n c ss := ⟨h.len, h.els.weak hk⟩
theorem Sls.keep {ss : List Sl} (h : Sls w P A n c ss) (hk : ∀ k, P k → k < w.heap.size → w'.heap[k]? = w.heap[k]?) : Sls w' P A n c ss := ⟨h.len, h.els.keep hk⟩
theorem Sls.weak {ss : List Sl} (h : Sls w P A n c ss) (hk : ∀ k, P k → Q k) : Sls w Q A n c ss := ⟨h.len, h.els.weak hk⟩
theorem Syl.weak {ss : List Sym} (h : Syl w P A n c ss) (hk : ∀ k, P k → Q k) : Syl w Q A n c ss := ⟨h.len, h.nil, h.cap, fun ad hA hn => hk _ (h.blk ad hA hn), h.at_⟩
end
structure Pl where
 sg : Option Addr × Nat
 nd : Option Addr × Nat
 rp : Option Addr × Nat
 sy : Option Addr × Nat
 bk : Option Addr × Nat
 fw : Option Addr × Nat
 rl : Option Addr × Nat
 sl : Option Addr × Nat
 ini : Option Addr × Nat
 fin : Option Addr × Nat
 tl : Option Addr × Nat
abbrev imA (p : Pl) (x : Im) : Array Value := #[str x.name, .int .i64 x.flags, .slice p.sg.1 x.segs.length p.sg.2, .slice p.nd.1 x.needed.length p.nd.2, .slice p.rp.1 x.run.length p.rp.2, .slice p.sy.1 x.syms.length p.sy.2,
 .slice p.bk.1 x.rows.length p.bk.2, .slice p.fw.1 x.words.length p.fw.2, .int .i64 x.shift, .slice p.rl.1 x.relocs.length p.rl.2, .slice p.sl.1 x.slots.length p.sl.2, .slice p.ini.1 x.init.length p.ini.2, .slice p.fin.1 x.fini.length p.fin.2,
 .slice p.tl.1 x.tls.length p.tl.2, .int .i64 x.tlsSize]
abbrev imV (p : Pl) (x : Im) : Value := .agg (imA p x)
def rowF (rows : List (List Int)) (k : Nat) : List Int := rows.getD k []
structure ImIn (w : World) (P : Nat → Prop) (p : Pl) (x : Im) : Prop where
 segs : Sgs w P p.sg.1 x.segs.length p.sg.2 x.segs
 needed : Nds w P p.nd.1 x.needed.length p.nd.2 x.needed
 run : Src w P p.rp.1 x.run.length p.rp.2 (strs x.run)
 syms : Syl w P p.sy.1 x.syms.length p.sy.2 x.syms
 tab : TabV w P p.bk.1 x.rows.length p.bk.2 p.fw.1 p.fw.2 (rowF x.rows) x.words
 relocs : Rls w P p.rl.1 x.relocs.length p.rl.2 x.relocs
 slots : Sls w P p.sl.1 x.slots.length p.sl.2 x.slots
 init : Src w P p.ini.1 x.init.length p.ini.2 (ints x.init)
 fini : Src w P p.fin.1 x.fini.length p.fin.2 (ints x.fini)
 tls : Src w P p.tl.1 x.tls.length p.tl.2 (cells x.tls)
theorem ImIn.keep {w w' : World} {P : Nat → Prop} {p : Pl} {x : Im} (h : ImIn w P p x) (hk : ∀ k, P k → k < w.heap.size → w'.heap[k]? = w.heap[k]?) : ImIn w' P p x :=
 ⟨h.segs.keep hk, h.needed.keep hk, h.run.keep hk, h.syms.keep hk, h.tab.keep hk, h.relocs.keep hk, h.slots.keep hk, h.init.keep hk, h.fini.keep hk, h.tls.keep hk⟩
theorem ImIn.weak {w : World} {P Q : Nat → Prop} {p : Pl} {x : Im} (h : ImIn w P p x) (hk : ∀ k, P k → Q k) : ImIn w Q p x :=
 ⟨h.segs.weak hk, h.needed.weak hk, h.run.weak hk, h.syms.weak hk, h.tab.weak hk, h.relocs.weak hk, h.slots.weak hk, h.init.weak hk, h.fini.weak hk, h.tls.weak hk⟩
theorem ImIn.lt {w w' : World} {p : Pl} {x : Im} (h : ImIn w (fun k => k < w.heap.size) p x) (hb : Below w.heap.size w w') : ImIn w' (fun k => k < w'.heap.size) p x :=
 (h.keep fun k hk _ => hb.block k hk).weak fun _ hk => Nat.lt_of_lt_of_le hk hb.size
def Long (n : Nat) : Prop := n ≤ 140737488351232
structure Fit (x : Im) : Prop where
 name : Long x.name.length
 flags : I64 x.flags
 segs : Long x.segs.length
 seg : ∀ s ∈ x.segs, I64 s.at_ ∧ I64 s.size ∧ I64 s.perm ∧ Long s.bs.length
 needed : Long x.needed.length
 need : ∀ s ∈ x.needed, Long s.name.length ∧ Long s.vers.length ∧ ∀ v ∈ s.vers, Long v.length
 run : Long x.run.length
 runs : ∀ s ∈ x.run, Long s.length
 syms : Long x.syms.length
 sym : ∀ s ∈ x.syms, Long s.name.length ∧ Long s.ver.length ∧ I64 s.kind ∧ I64 s.vis ∧ I64 s.val ∧ I64 s.size
 rows : Long x.rows.length
 row : ∀ r ∈ x.rows, Long r.length ∧ ∀ i ∈ r, I64 i
 words : Long x.words.length
 shift : I64 x.shift
 relocs : Long x.relocs.length
 reloc : ∀ r ∈ x.relocs, I64 r.at_ ∧ I64 r.kind ∧ I64 r.sym ∧ I64 r.add
 slots : Long x.slots.length
 slot : ∀ s ∈ x.slots, I64 s.at_ ∧ I64 s.sym ∧ I64 s.stub
 init : Long x.init.length
 inits : ∀ i ∈ x.init, I64 i
 fini : Long x.fini.length
 finis : ∀ i ∈ x.fini, I64 i
 tls : Long x.tls.length
 tlsSize : I64 x.tlsSize
structure Ix (w : World) (g : Nat) (p : Pl) (x : Im) : Prop where
 bx : Bx w g (imA p x) 40
section
variable {w w' : World} {g : Nat} {p : Pl} {x : Im}
theorem Ix.new (w : World) (p : Pl) (x : Im) : Ix (w.alloc (.cells (imA p x) 40)) w.heap.size p x := ⟨Bx.new _ _ _⟩
theorem Ix.below (h : Ix w g p x) (hb : Below w.heap.size w w') : Ix w' g p x := ⟨h.bx.below hb⟩
theorem Ix.below' {B : Nat} (h : Ix w g p x) (hb : Below B w w') (hg : g < B) : Ix w' g p x := ⟨h.bx.below' hb hg⟩
theorem Ix.lt (h : Ix w g p x) : g < w.heap.size := h.bx.lt
theorem ibox_below (w : World) (p : Pl) (x : Im) : Below w.heap.size w (w.alloc (.cells (imA p x) 40)) := (Below.refl _ _).alloc (Nat.le_refl _) _
theorem Tryz.info_img : (Tryz.prog.info? 40).map (·.size) = some 15 := by kernel_rfl
theorem Ix.cells (h : Ix w g p x) : w.cell? ⟨g, 0, none⟩ = some (str x.name) ∧ w.cell? ⟨g, 1, none⟩ = some (.int .i64 x.flags) ∧ w.cell? ⟨g, 2, none⟩ = some (.slice p.sg.1 x.segs.length p.sg.2) ∧ w.cell? ⟨g, 3, none⟩ = some (.slice p.nd.1 x.needed.length p.nd.2) ∧
  w.cell? ⟨g, 4, none⟩ = some (.slice p.rp.1 x.run.length p.rp.2) ∧ w.cell? ⟨g, 5, none⟩ = some (.slice p.sy.1 x.syms.length p.sy.2) ∧ w.cell? ⟨g, 6, none⟩ = some (.slice p.bk.1 x.rows.length p.bk.2) ∧ w.cell? ⟨g, 7, none⟩ = some (.slice p.fw.1 x.words.length p.fw.2) ∧
  w.cell? ⟨g, 8, none⟩ = some (.int .i64 x.shift) ∧ w.cell? ⟨g, 9, none⟩ = some (.slice p.rl.1 x.relocs.length p.rl.2) ∧ w.cell? ⟨g, 10, none⟩ = some (.slice p.sl.1 x.slots.length p.sl.2) ∧ w.cell? ⟨g, 11, none⟩ = some (.slice p.ini.1 x.init.length p.ini.2) ∧
  w.cell? ⟨g, 12, none⟩ = some (.slice p.fin.1 x.fini.length p.fin.2) ∧ w.cell? ⟨g, 13, none⟩ = some (.slice p.tl.1 x.tls.length p.tl.2) ∧ w.cell? ⟨g, 14, none⟩ = some (.int .i64 x.tlsSize) :=
 ⟨h.bx.c 0, h.bx.c 1, h.bx.c 2, h.bx.c 3, h.bx.c 4, h.bx.c 5, h.bx.c 6, h.bx.c 7, h.bx.c 8, h.bx.c 9, h.bx.c 10, h.bx.c 11, h.bx.c 12, h.bx.c 13, h.bx.c 14⟩
end
def withB (n a b : Int) : Bool := decide (a ≤ n) && decide (n ≤ b)
theorem within_any (n a b : Int) (w : World) : Calls Tryz.prog 100 #[.int .i64 n, .int .i64 a, .int .i64 b] w fun e w' => e = .returned (.bool (withB n a b)) ∧ w = w' := by
 go_enter Tryz.func100, Tryz.ntmps100
 go_wp2_with fail
 all_goals
  go_ret
  refine ⟨ret_bool ?_, rfl⟩
  simp [withB, *] <;> omega
end Go.Proofs.YtfljignkjmabpaaGreat
namespace Go.Proofs.YtfljignkjmabpaaGreat
set_option maxRecDepth 100000
open Go.RowKit
theorem il_get (l : List Int) (i : Nat) (hi : i < l.length) : (il l)[i]? = some (.int .i64 l[i]) := by simp [il, hi]
theorem eq_of_get {l m : List Int} (hlen : l.length = m.length) (h : ∀ z (h1 : z < l.length) (h2 : z < m.length), l[z] = m[z]) : l = m := List.ext_getElem hlen h
theorem equal_any {P Q : Nat → Prop} (A A' : Option Addr) (c c' : Nat) (l m : List Int) (w : World) (hx : Src w P A l.length c (il l)) (hy : Src w Q A' m.length c' (il m)) (hn : l.length ≤ 4611686018427387904) (hm : m.length ≤ 4611686018427387904) :
  Calls Tryz.prog 173 #[.slice A l.length c, .slice A' m.length c'] w fun e w' => e = .returned (.bool (decide (l = m))) ∧ Below w.heap.size w w' := by
 have HX := hD hx.lt
 have HY := hD hy.lt
 clear hx hy
 by_cases hlen : l.length = m.length
 ·
  have HL := hD hlen
  have hle : ((l.length : Int) != (m.length : Int)) = false := by simp [hlen]
  have hxc := HX.out.cap
  have hyc := HY.out.cap
  clear hlen
  generalize hln : l.length = n at *
  generalize hmn : m.length = k at *
  obtain rfl : n = k := HL.out
  have HLN := hD hln
  have HMN := hD hmn
  clear hln hmn
  go_enter Tryz.func173, Tryz.ntmps173
  go_wp2
  go_loopw [13] (fun i wr => ∃ k j : Nat, k ≤ n ∧ i = .int .i64 k ∧ wr = w.drewN j ∧ ∀ z (h1 : z < l.length) (h2 : z < m.length), z < k → l[z] = m[z]) (fun i _ => n - (intOf i).toNat)
  case atStart => exact ⟨0, 0, Nat.zero_le _, rfl, rfl, by intro z _ _ hz; omega⟩
  case round =>
   obtain ⟨k, j, hk, rfl, rfl, he⟩ := hrel
   have HE := hD he
   clear he
   by_cases hlt : k < n
   ·
    obtain ⟨ad, rfl⟩ : ∃ ad, A = some ad := by
     cases A with
     | none => have := (HX.out.nil rfl).1; omega
     | some ad => exact ⟨ad, rfl⟩
    obtain ⟨ad', rfl⟩ : ∃ ad', A' = some ad' := by
     cases A' with
     | none => have := (HY.out.nil rfl).1; omega
     | some ad => exact ⟨ad, rfl⟩
    have hk1 : k < l.length := by rw [HLN.out]; exact hlt
    have hk2 : k < m.length := by rw [HMN.out]; exact hlt
    have hx : w.cell? (ad.add k) = some (.int .i64 l[k]) := HX.out.at_ ad rfl k _ (il_get l k hk1)
    have hy : w.cell? (ad'.add k) = some (.int .i64 m[k]) := HY.out.at_ ad' rfl k _ (il_get m k hk2)
    have HK := hD (show l[k] = m[k] ↔ l[k] = m[k] from Iff.rfl)
    have HNE := hD (show l[k] ≠ m[k] → l ≠ m from fun h e => h (by subst e; rfl))
    have HNX := hD (show l[k] = m[k] → ∀ z (h1 : z < l.length) (h2 : z < m.length), z < k + 1 → l[z] = m[z] from fun h z h1 h2 hz => by
     by_cases hzk : z = k
     ·
      subst hzk; exact h
     ·
      exact HE.out z h1 h2 (by omega))
    clear HK
    generalize l[k] = x at *
    generalize m[k] = y at *
    clear hk1 hk2
    by_cases hxy : x = y
    ·
     have HN := hD (HNX.out hxy)
     subst hxy
     go_wp2
     go_quiet (fail)
     go_wp2
     go_roundw
     case rel => exact ⟨k + 1, _, by omega, by go_num, rfl, HN.out⟩
     case measure => simp [intOf]; omega
    ·
     have hne : (x != y) = true := by simpa using hxy
     have HN := hD (HNE.out hxy)
     clear hxy
     go_wp2
     go_quiet (fail)
     go_wp2
     first | go_ret | skip
     refine ⟨?_, below_drewN (drewN_below _ _) _⟩
     (rw [decide_eq_false HN.out]; try rfl)
   ·
    obtain rfl : k = n := by omega
    have HN := hD (show l = m from eq_of_get (by rw [HLN.out, HMN.out]) fun z h1 h2 => HE.out z h1 h2 (by rw [HLN.out] at h1; omega))
    go_wp2
    first | go_ret | skip
    refine ⟨?_, drewN_below _ _⟩
    (rw [decide_eq_true HN.out]; try rfl)
 ·
  have HN := hD (show l ≠ m from fun e => hlen (by rw [e]))
  have hle : ((l.length : Int) != (m.length : Int)) = true := by simp; omega
  go_enter Tryz.func173, Tryz.ntmps173
  go_wp2
  first | go_ret | skip
  refine ⟨?_, Below.refl _ _⟩
  (rw [decide_eq_false HN.out]; try rfl)
def rowsB (n m : Nat) (f g : Nat → List Int) : Bool := decide (n = m) && decide (∀ k, k < n → f k = g k)
theorem rows_no {n m : Nat} {f g : Nat → List Int} {k : Nat} (hk : k < n) (h : f k ≠ g k) : rowsB n m f g = false := by
 unfold rowsB
 rw [Bool.and_eq_false_iff]
 exact .inr (decide_eq_false fun e => h (e k hk))
theorem rows_yes {n : Nat} {f g : Nat → List Int} (h : ∀ k, k < n → f k = g k) : rowsB n n f g = true := by
 unfold rowsB
 rw [Bool.and_eq_true]
 exact ⟨decide_eq_true rfl, decide_eq_true h⟩
set_option maxHeartbeats 1000000 in
theorem equalFunc_any (A : Option Addr) (n c : Nat) (f : Nat → List Int) (B : Option Addr) (m d : Nat) (g : Nat → List Int) (w : World) (hx : Rws w (fun k => k < w.heap.size) A n c f) (hy : Rws w (fun k => k < w.heap.size) B m d g)
  (hn : n ≤ 4611686018427387904) (hf : ∀ k, k < n → (f k).length ≤ 4611686018427387904) (hm : m ≤ 4611686018427387904) (hg : ∀ k, k < m → (g k).length ≤ 4611686018427387904) :
  Calls Tryz.prog 171 #[.slice A n c, .slice B m d, .func (.func 173) #[] #[]] w fun e w' => e = .returned (.bool (rowsB n m f g)) ∧ Below w.heap.size w w' := by
 have HX := hD hx
 have HY := hD hy
 have hxc := hx.cap
 have hyc := hy.cap
 clear hx hy
 by_cases hnm : n = m
 ·
  subst hnm
  have hle : ((n : Int) != (n : Int)) = false := by simp
  go_enter Tryz.func171, Tryz.ntmps171
  go_wp2
  go_loopw [17] (fun t wr => ∃ k : Nat, k ≤ n ∧ t = .int .i64 k ∧ Below w.heap.size w wr ∧ ∀ z, z < k → f z = g z) (fun t _ => n - (intOf t).toNat)
  case atStart => exact ⟨0, Nat.zero_le _, rfl, Below.refl _ _, by intro z hz; omega⟩
  case round =>
   obtain ⟨k, hk, rfl, hb, he⟩ := hrel
   have HE := hD he
   have HB := hD hb
   clear he hb
   by_cases hlt : k < n
   ·
    obtain ⟨ad, rfl⟩ : ∃ ad, A = some ad := by
     cases A with
     | none => have := (HX.out.nil rfl).1; omega
     | some ad => exact ⟨ad, rfl⟩
    obtain ⟨ad', rfl⟩ : ∃ ad', B = some ad' := by
     cases B with
     | none => have := (HY.out.nil rfl).1; omega
     | some ad => exact ⟨ad, rfl⟩
    obtain ⟨Ai, ci, h1, h2⟩ := (HX.out.lt HB.out).at_ ad rfl k hlt
    obtain ⟨Bi, di, h3, h4⟩ := (HY.out.lt HB.out).at_ ad' rfl k hlt
    have HC := hD (equal_any Ai Bi ci di (f k) (g k) wr h2 h4 (hf k hlt) (hg k hlt))
    have HNE := hD (fun (h : decide (f k = g k) = false) => rows_no (m := n) (g := g) hlt (of_decide_eq_false h))
    have HNX := hD (show decide (f k = g k) = true → ∀ z, z < k + 1 → f z = g z from fun h z hz => by
     by_cases hzk : z = k
     ·
      subst hzk; exact of_decide_eq_true h
     ·
      exact HE.out z (by omega))
    clear h2 h4
    generalize hde : decide (f k = g k) = de at *
    generalize (f k).length = nf at *
    generalize (g k).length = ng at *
    cases de
    ·
     have HN := hD (HNE.out rfl)
     go_wp2_with (go_at_call 173; refine (HC.out).mono ?_; rintro e w2 ⟨rfl, hb2⟩; have HB2 := hD (HB.out.trans (hb2.mono HB.out.size)); clear hb2)
     first | go_ret | skip
     refine ⟨?_, HB2.out⟩
     (rw [HN.out]; try rfl)
    ·
     have HN := hD (HNX.out rfl)
     go_wp2_with (go_at_call 173; refine (HC.out).mono ?_; rintro e w2 ⟨rfl, hb2⟩; have HB2 := hD (HB.out.trans (hb2.mono HB.out.size)); clear hb2)
     go_roundw
     case rel => exact ⟨k + 1, by omega, by go_num, HB2.out, HN.out⟩
     case measure => simp [intOf]; omega
   ·
    obtain rfl : k = n := by omega
    have HN := hD (rows_yes HE.out)
    go_wp2
    first | go_ret | skip
    refine ⟨?_, HB.out⟩
    (rw [HN.out]; try rfl)
 ·
  have HN := hD (show rowsB n m f g = false by simp [rowsB, hnm])
  have hle : ((n : Int) != (m : Int)) = true := by simp; omega
  go_enter Tryz.func171, Tryz.ntmps171
  go_wp2
  first | go_ret | skip
  refine ⟨?_, Below.refl _ _⟩
  (rw [HN.out]; try rfl)
end Go.Proofs.YtfljignkjmabpaaGreat
namespace Go.Proofs.YtfljignkjmabpaaGreat
set_option maxRecDepth 100000
open Go.RowKit
structure Kp (F : Nat → Prop) (w w' : World) : Prop where
 os : w'.os = w.os
 tape : w'.tape = w.tape
 output : w'.output = w.output
 size : w.heap.size ≤ w'.heap.size
 block : ∀ k, F k → w'.heap[k]? = w.heap[k]?
theorem Kp.trans {F : Nat → Prop} {a b c : World} (h : Kp F a b) (k : Kp F b c) : Kp F a c :=
 ⟨k.os.trans h.os, k.tape.trans h.tape, k.output.trans h.output, Nat.le_trans h.size k.size, fun i hi => (k.block i hi).trans (h.block i hi)⟩
theorem Kp.weak {F F' : Nat → Prop} {a b : World} (h : Kp F a b) (hF : ∀ k, F' k → F k) : Kp F' a b := ⟨h.os, h.tape, h.output, h.size, fun i hi => h.block i (hF i hi)⟩
theorem Kp.of_below {F : Nat → Prop} {w w' : World} (h : Below w.heap.size w w') (hF : ∀ k, F k → k < w.heap.size) : Kp F w w' := ⟨h.os, h.tape, h.output, h.size, fun i hi => h.block i (hF i hi)⟩
theorem Kp.to_below {F : Nat → Prop} {B : Nat} {w w' : World} (h : Kp F w w') (hF : ∀ k, k < B → F k) : Below B w w' := ⟨h.os, h.tape, h.output, h.size, fun i hi => h.block i (hF i hi)⟩
theorem Kp.bx {F : Nat → Prop} {w w' : World} {g : Nat} {cs : Array Value} {t : TypeId} (h : Kp F w w') (hg : F g) (hb : Bx w g cs t) : Bx w' g cs t := (h.block g hg).trans hb
theorem Src.kp {F : Nat → Prop} {w w' : World} {A : Option Addr} {n c : Nat} {xs : List Value} (h : Src w F A n c xs) (k : Kp F w w') : Src w' F A n c xs := h.keep fun i hi _ => k.block i hi
structure Wi (w : World) (F : Nat → Prop) (G g : Nat) (s : St) : Prop where
 wr : ∃ B A c, Wr w B g s.1 A c s.2 ∧ ∀ k, F k → k ≠ g ∧ row A ≠ some k
 blk : Bx w G #[.pointer (some ⟨g, 0, none⟩)] 76
 inF : F G
 lt : ∀ k, F k → k < w.heap.size
def Wro (w : World) (F : Nat → Prop) (G g : Nat) (s : St) (en : Ending) (w' : World) : Prop := en = .returned (.tuple #[]) ∧ Wi w' F G g s ∧ Kp F w w'
section
variable {w w' : World} {F F' : Nat → Prop} {G g : Nat} {s : St}
theorem Wi.c0 (h : Wi w F G g s) : w.cell? ⟨G, 0, none⟩ = some (.pointer (some ⟨g, 0, none⟩)) := h.blk.c 0
theorem Wi.below (h : Wi w F G g s) (hb : Below w.heap.size w w') : Wi w' F G g s := by
 obtain ⟨⟨B, A, c, h1, h2⟩, h3, h4, h5⟩ := h
 exact ⟨⟨B, A, c, h1.below hb, h2⟩, h3.below hb, h4, fun k hk => Nat.lt_of_lt_of_le (h5 k hk) hb.size⟩
theorem Wi.weak (h : Wi w F G g s) (hF : ∀ k, F' k → F k) (hG : F' G) : Wi w F' G g s := by
 obtain ⟨⟨B, A, c, h1, h2⟩, h3, h4, h5⟩ := h
 exact ⟨⟨B, A, c, h1, fun k hk => h2 k (hF k hk)⟩, h3, hG, fun k hk => h5 k (hF k hk)⟩
theorem Wi.alloc (h : Wi w F G g s) (o : Obj) : Wi (w.alloc o) (fun k => F k ∨ k = w.heap.size) G g s := by
 have hb : Below w.heap.size w (w.alloc o) := (Below.refl _ _).alloc (Nat.le_refl _) _
 obtain ⟨⟨B, A, c, h1, h2⟩, h3, h4, h5⟩ := h
 refine ⟨⟨B, A, c, h1.below hb, ?_⟩, h3.below hb, .inl h4, ?_⟩
 ·
  rintro k (hk | rfl)
  ·
   exact h2 k hk
  ·
   have hg := h1.lt
   exact ⟨by omega, fun e => by have := (h1.rowLt _ e).2; omega⟩
 ·
  rintro k (hk | rfl)
  ·
   have := h5 k hk
   have := hb.size
   omega
  ·
   simp
theorem Wi.at_ {B : Nat} {A : Option Addr} {s' : St} (h5 : ∀ k, F k → k < w.heap.size) (h3 : Bx w G #[.pointer (some ⟨g, 0, none⟩)] 76) (h4 : F G) (h2 : ∀ k, F k → k ≠ g ∧ row A ≠ some k) (ha : At w B g A s'.1 s'.2 w') : Wi w' F G g s' ∧ Kp F w w' := by
 obtain ⟨A', c', hw, hs⟩ := ha
 have hk : Kp F w w' := ⟨hs.os, hs.tape, hs.output, hs.size, fun k hk => hs.block k (h5 k hk) (h2 k hk).1 (h2 k hk).2⟩
 refine ⟨⟨⟨B, A', c', hw, fun k hk' => ⟨(h2 k hk').1, ?_⟩⟩, hk.bx h4 h3, h4, fun k hk' => Nat.lt_of_lt_of_le (h5 k hk') hs.size⟩, hk⟩
 rcases hs.row with hr | ⟨j, hj, hr⟩
 ·
  rw [hr]; exact (h2 k hk').2
 ·
  rw [hr]
  intro e
  injection e with e
  have := h5 k hk'
  omega
theorem Wi.num (h : Wi w F G g s) (size : Int) (An : Option Addr) (n cn : Nat) (ns : List Int) (hi : ∀ x ∈ ns, I64 x) (hx : Src w F An n cn (ints ns)) (hn : s.2.length + 8 * n ≤ 140737488355328) :
  Calls Tryz.prog 77 #[.pointer (some ⟨g, 0, none⟩), .int .i64 size, .slice An n cn] w (Wro w F G g (wNumsA size ns s)) := by
 obtain ⟨⟨B, A, c, h1, h2⟩, h3, h4, h5⟩ := h
 refine (wnum_any B g s A c size An n cn ns w h1 hi (hx.weak h2) hn).mono ?_
 rintro en w' ⟨rfl, ha⟩
 exact ⟨rfl, Wi.at_ h5 h3 h4 h2 ha⟩
theorem Wi.text (h : Wi w F G g s) (An : Option Addr) (n cn : Nat) (ss : List (List UInt8)) (hx : Src w F An n cn (strs ss)) (hn : s.2.length + room ss ≤ 140737488355328) :
  Calls Tryz.prog 76 #[.pointer (some ⟨g, 0, none⟩), .slice An n cn] w (Wro w F G g (wTexts ss s)) := by
 obtain ⟨⟨B, A, c, h1, h2⟩, h3, h4, h5⟩ := h
 refine (wtext_any B g s A c An n cn ss w h1 (hx.weak h2) hn).mono ?_
 rintro en w' ⟨rfl, ha⟩
 exact ⟨rfl, Wi.at_ h5 h3 h4 h2 ha⟩
theorem Wi.block (h : Wi w F G g s) (An : Option Addr) (n cn : Nat) (l : List UInt8) (hx : Src w F An n cn (cells l)) (hn : s.2.length + 8 + n ≤ 140737488355328) :
  Calls Tryz.prog 91 #[.pointer (some ⟨g, 0, none⟩), .slice An n cn] w (Wro w F G g (wMeas 4 1048576 l s)) := by
 obtain ⟨⟨B, A, c, h1, h2⟩, h3, h4, h5⟩ := h
 refine (wblock_any B g s A c An n cn l w h1 (hx.weak h2) hn).mono ?_
 rintro en w' ⟨rfl, ha⟩
 exact ⟨rfl, Wi.at_ h5 h3 h4 h2 ha⟩
theorem src_new (w : World) (xs : List Value) (t : TypeId) : Src (w.alloc (.cells xs.toArray t)) (fun k => k = w.heap.size) (some ⟨w.heap.size, 0, none⟩) xs.length xs.length xs := by
 refine ⟨rfl, (by intro h; cases h), Nat.le_refl _, (by intro ad h _; cases h; rfl), ?_⟩
 intro ad h j u hj
 cases h
 rw [plainAdd, Nat.zero_add]
 have := cell_of_row (w.alloc (.cells xs.toArray t)) w.heap.size j xs.toArray t (0, 0) (heap_alloc_new _ _)
 rw [this]
 simpa using hj
theorem Wi.nums (h : Wi w F G g s) (size : Int) (ns : List Int) (hi : ∀ x ∈ ns, I64 x) (hn : s.2.length + 8 * ns.length ≤ 140737488355328) :
  Calls Tryz.prog 77 #[.pointer (some ⟨g, 0, none⟩), .int .i64 size, .slice (some ⟨w.heap.size, 0, none⟩) ns.length ns.length] (w.alloc (.cells (ints ns).toArray 3)) (Wro w F G g (wNumsA size ns s)) := by
 have hl : (ints ns).length = ns.length := by simp [ints]
 have hs := src_new w (ints ns) 3
 rw [hl] at hs
 refine ((h.alloc (.cells (ints ns).toArray 3)).num size _ ns.length ns.length ns hi (hs.weak fun k hk => .inr hk) hn).mono ?_
 rintro en w' ⟨rfl, h1, h2⟩
 exact ⟨rfl, h1.weak (fun k hk => .inl hk) h.inF, (Kp.of_below ((Below.refl _ _).alloc (Nat.le_refl _) _) h.lt).trans (h2.weak fun k hk => .inl hk)⟩
theorem Wi.texts (h : Wi w F G g s) (ss : List (List UInt8)) (hn : s.2.length + room ss ≤ 140737488355328) :
  Calls Tryz.prog 76 #[.pointer (some ⟨g, 0, none⟩), .slice (some ⟨w.heap.size, 0, none⟩) ss.length ss.length] (w.alloc (.cells (strs ss).toArray 9)) (Wro w F G g (wTexts ss s)) := by
 have hl : (strs ss).length = ss.length := by simp [strs]
 have hs := src_new w (strs ss) 9
 rw [hl] at hs
 refine ((h.alloc (.cells (strs ss).toArray 9)).text _ ss.length ss.length ss (hs.weak fun k hk => .inr hk) hn).mono ?_
 rintro en w' ⟨rfl, h1, h2⟩
 exact ⟨rfl, h1.weak (fun k hk => .inl hk) h.inF, (Kp.of_below ((Below.refl _ _).alloc (Nat.le_refl _) _) h.lt).trans (h2.weak fun k hk => .inl hk)⟩
end
structure Wx (w : World) (F : Nat → Prop) (G g gb : Nat) (cs : Array Value) (ty : TypeId) (s : St) (X : World) : Prop where
 wi : Wi X (fun k => F k ∨ k = gb) G g s
 kp : Kp F w X
 bx : Bx X gb cs ty
 inF : F G
section
variable {w X X' : World} {F : Nat → Prop} {G g gb : Nat} {cs : Array Value} {ty : TypeId} {s s' : St}
theorem Wx.new (h : Wi w F G g s) (cs : Array Value) (ty : TypeId) : Wx w F G g w.heap.size cs ty s (w.alloc (.cells cs ty)) :=
 ⟨h.alloc _, Kp.of_below ((Below.refl _ _).alloc (Nat.le_refl _) _) h.lt, Bx.new _ _ _, h.inF⟩
theorem Wx.done (h : Wx w F G g gb cs ty s X) : Wro w F G g s (.returned (.tuple #[])) X := ⟨rfl, h.wi.weak (fun k hk => .inl hk) h.inF, h.kp⟩
theorem Wx.below (h : Wx w F G g gb cs ty s X) (hb : Below X.heap.size X X') : Wx w F G g gb cs ty s X' :=
 ⟨h.wi.below hb, h.kp.trans (Kp.of_below hb fun k hk => h.wi.lt k (.inl hk)), h.bx.below hb, h.inF⟩
theorem Wx.drew (h : Wx w F G g gb cs ty s X) : Wx w F G g gb cs ty s X.drew := h.below ⟨rfl, rfl, rfl, Nat.le_refl _, fun _ _ => rfl⟩
theorem Wx.step {en : Ending} (h : Wx w F G g gb cs ty s X) (k : Wro X (fun k => F k ∨ k = gb) G g s' en X') : en = .returned (.tuple #[]) ∧ Wx w F G g gb cs ty s' X' :=
 ⟨k.1, k.2.1, h.kp.trans (k.2.2.weak fun _ hk => .inl hk), k.2.2.bx (.inr rfl) h.bx, h.inF⟩
theorem Wx.nums (h : Wx w F G g gb cs ty s X) (size : Int) (ns : List Int) (hi : ∀ x ∈ ns, I64 x) (hn : s.2.length + 8 * ns.length ≤ 140737488355328) :
  Calls Tryz.prog 77 #[.pointer (some ⟨g, 0, none⟩), .int .i64 size, .slice (some ⟨X.heap.size, 0, none⟩) ns.length ns.length] (X.alloc (.cells (ints ns).toArray 3)) fun en X' => en = .returned (.tuple #[]) ∧ Wx w F G g gb cs ty (wNumsA size ns s) X' :=
 (h.wi.nums size ns hi hn).mono fun _ _ k => h.step k
theorem Wx.texts (h : Wx w F G g gb cs ty s X) (ss : List (List UInt8)) (hn : s.2.length + room ss ≤ 140737488355328) :
  Calls Tryz.prog 76 #[.pointer (some ⟨g, 0, none⟩), .slice (some ⟨X.heap.size, 0, none⟩) ss.length ss.length] (X.alloc (.cells (strs ss).toArray 9)) fun en X' => en = .returned (.tuple #[]) ∧ Wx w F G g gb cs ty (wTexts ss s) X' :=
 (h.wi.texts ss hn).mono fun _ _ k => h.step k
theorem Wx.block (h : Wx w F G g gb cs ty s X) (An : Option Addr) (n cn : Nat) (l : List UInt8) (hx : Src w F An n cn (cells l)) (hn : s.2.length + 8 + n ≤ 140737488355328) :
  Calls Tryz.prog 91 #[.pointer (some ⟨g, 0, none⟩), .slice An n cn] X fun en X' => en = .returned (.tuple #[]) ∧ Wx w F G g gb cs ty (wMeas 4 1048576 l s) X' :=
 (h.wi.block An n cn l ((hx.kp h.kp).weak fun _ hk => .inl hk) hn).mono fun _ _ k => h.step k
theorem Wx.numsd (h : Wx w F G g gb cs ty s X) (size : Int) (ns : List Int) (hi : ∀ x ∈ ns, I64 x) (hn : s.2.length + 8 * ns.length ≤ 140737488355328) :
  Calls Tryz.prog 77 #[.pointer (some ⟨g, 0, none⟩), .int .i64 size, .slice (some ⟨X.heap.size, 0, none⟩) ns.length ns.length] (X.alloc (.cells (ints ns).toArray 3)).drew fun en X' => en = .returned (.tuple #[]) ∧ Wx w F G g gb cs ty (wNumsA size ns s) X' :=
 h.drew.nums size ns hi hn
theorem Wx.textsd (h : Wx w F G g gb cs ty s X) (ss : List (List UInt8)) (hn : s.2.length + room ss ≤ 140737488355328) :
  Calls Tryz.prog 76 #[.pointer (some ⟨g, 0, none⟩), .slice (some ⟨X.heap.size, 0, none⟩) ss.length ss.length] (X.alloc (.cells (strs ss).toArray 9)).drew fun en X' => en = .returned (.tuple #[]) ∧ Wx w F G g gb cs ty (wTexts ss s) X' :=
 h.drew.texts ss hn
theorem Wx.blockd (h : Wx w F G g gb cs ty s X) (An : Option Addr) (n cn : Nat) (l : List UInt8) (hx : Src w F An n cn (cells l)) (hn : s.2.length + 8 + n ≤ 140737488355328) :
  Calls Tryz.prog 91 #[.pointer (some ⟨g, 0, none⟩), .slice An n cn] X.drew fun en X' => en = .returned (.tuple #[]) ∧ Wx w F G g gb cs ty (wMeas 4 1048576 l s) X' :=
 h.drew.block An n cn l hx hn
theorem Wx.nums1 (h : Wx w F G g gb cs ty s X) (size a : Int) (ha : I64 a) (hn : s.2.length + 8 ≤ 140737488355328) :
  Calls Tryz.prog 77 #[.pointer (some ⟨g, 0, none⟩), .int .i64 size, .slice (some ⟨X.heap.size, 0, none⟩) 1 1] (X.alloc (.cells #[.int .i64 a] 3)) fun en X' => en = .returned (.tuple #[]) ∧ Wx w F G g gb cs ty (wNumsA size [a] s) X' :=
 h.nums size [a] (by simp only [List.forall_mem_cons]; exact ⟨ha, by simp⟩) hn
theorem Wx.texts1 (h : Wx w F G g gb cs ty s X) (a : Str) (hn : s.2.length + ((a.length + 8)) ≤ 140737488355328) :
  Calls Tryz.prog 76 #[.pointer (some ⟨g, 0, none⟩), .slice (some ⟨X.heap.size, 0, none⟩) 1 1] (X.alloc (.cells #[str a] 9)) fun en X' => en = .returned (.tuple #[]) ∧ Wx w F G g gb cs ty (wTexts [a] s) X' :=
 h.texts [a] (by simp [room]; omega)
theorem Wx.texts2 (h : Wx w F G g gb cs ty s X) (a b : Str) (hn : s.2.length + ((a.length + 8) + (b.length + 8)) ≤ 140737488355328) :
  Calls Tryz.prog 76 #[.pointer (some ⟨g, 0, none⟩), .slice (some ⟨X.heap.size, 0, none⟩) 2 2] (X.alloc (.cells #[str a, str b] 9)) fun en X' => en = .returned (.tuple #[]) ∧ Wx w F G g gb cs ty (wTexts [a, b] s) X' :=
 h.texts [a, b] (by simp [room]; omega)
theorem Wx.nums1d (h : Wx w F G g gb cs ty s X) (size a : Int) (ha : I64 a) (hn : s.2.length + 8 ≤ 140737488355328) :
  Calls Tryz.prog 77 #[.pointer (some ⟨g, 0, none⟩), .int .i64 size, .slice (some ⟨X.heap.size, 0, none⟩) 1 1] (X.alloc (.cells #[.int .i64 a] 3)).drew fun en X' => en = .returned (.tuple #[]) ∧ Wx w F G g gb cs ty (wNumsA size [a] s) X' :=
 h.numsd size [a] (by simp only [List.forall_mem_cons]; exact ⟨ha, by simp⟩) hn
theorem Wx.nums2d (h : Wx w F G g gb cs ty s X) (size a b : Int) (ha : I64 a) (hb : I64 b) (hn : s.2.length + 16 ≤ 140737488355328) :
  Calls Tryz.prog 77 #[.pointer (some ⟨g, 0, none⟩), .int .i64 size, .slice (some ⟨X.heap.size, 0, none⟩) 2 2] (X.alloc (.cells #[.int .i64 a, .int .i64 b] 3)).drew fun en X' => en = .returned (.tuple #[]) ∧ Wx w F G g gb cs ty (wNumsA size [a, b] s) X' :=
 h.numsd size [a, b] (by simp only [List.forall_mem_cons]; exact ⟨ha, hb, by simp⟩) hn
theorem Wx.nums3d (h : Wx w F G g gb cs ty s X) (size a b c : Int) (ha : I64 a) (hb : I64 b) (hc : I64 c) (hn : s.2.length + 24 ≤ 140737488355328) :
  Calls Tryz.prog 77 #[.pointer (some ⟨g, 0, none⟩), .int .i64 size, .slice (some ⟨X.heap.size, 0, none⟩) 3 3] (X.alloc (.cells #[.int .i64 a, .int .i64 b, .int .i64 c] 3)).drew fun en X' => en = .returned (.tuple #[]) ∧ Wx w F G g gb cs ty (wNumsA size [a, b, c] s) X' :=
 h.numsd size [a, b, c] (by simp only [List.forall_mem_cons]; exact ⟨ha, hb, hc, by simp⟩) hn
theorem Wx.nums5d (h : Wx w F G g gb cs ty s X) (size a b c d e : Int) (ha : I64 a) (hb : I64 b) (hc : I64 c) (hd : I64 d) (he : I64 e) (hn : s.2.length + 40 ≤ 140737488355328) :
  Calls Tryz.prog 77 #[.pointer (some ⟨g, 0, none⟩), .int .i64 size, .slice (some ⟨X.heap.size, 0, none⟩) 5 5] (X.alloc (.cells #[.int .i64 a, .int .i64 b, .int .i64 c, .int .i64 d, .int .i64 e] 3)).drew fun en X' => en = .returned (.tuple #[]) ∧ Wx w F G g gb cs ty (wNumsA size [a, b, c, d, e] s) X' :=
 h.numsd size [a, b, c, d, e] (by simp only [List.forall_mem_cons]; exact ⟨ha, hb, hc, hd, he, by simp⟩) hn
theorem Wx.texts1d (h : Wx w F G g gb cs ty s X) (a : Str) (hn : s.2.length + ((a.length + 8)) ≤ 140737488355328) :
  Calls Tryz.prog 76 #[.pointer (some ⟨g, 0, none⟩), .slice (some ⟨X.heap.size, 0, none⟩) 1 1] (X.alloc (.cells #[str a] 9)).drew fun en X' => en = .returned (.tuple #[]) ∧ Wx w F G g gb cs ty (wTexts [a] s) X' :=
 h.textsd [a] (by simp [room]; omega)
theorem Wx.texts2d (h : Wx w F G g gb cs ty s X) (a b : Str) (hn : s.2.length + ((a.length + 8) + (b.length + 8)) ≤ 140737488355328) :
  Calls Tryz.prog 76 #[.pointer (some ⟨g, 0, none⟩), .slice (some ⟨X.heap.size, 0, none⟩) 2 2] (X.alloc (.cells #[str a, str b] 9)).drew fun en X' => en = .returned (.tuple #[]) ∧ Wx w F G g gb cs ty (wTexts [a, b] s) X' :=
 h.textsd [a, b] (by simp [room]; omega)
theorem Wx.ptr (h : Wx w F G g gb cs ty s X) : X.cell? ⟨G, 0, none⟩ = some (.pointer (some ⟨g, 0, none⟩)) := h.wi.c0
end
end Go.Proofs.YtfljignkjmabpaaGreat
