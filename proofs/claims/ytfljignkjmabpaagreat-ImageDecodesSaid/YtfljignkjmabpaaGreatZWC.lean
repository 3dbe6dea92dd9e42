/- A part of the proof. -/
import Derived.Test.YtfljignkjmabpaaGreatZWB
set_option linter.unusedSimpArgs false
set_option linter.unusedVariables false
namespace Go.Proofs.YtfljignkjmabpaaGreat
set_option maxRecDepth 100000
open Go.RowKit
def wListF (size : Int) (n : Nat) (f : Nat → St → St) (s : St) : St := (List.range n).foldl (fun t k => f k t) (wNumsA size [(n : Int)] s)
def wPart (f : Nat → St → St) (k : Nat) (t : St) : St := (List.range k).foldl (fun t k => f k t) t
theorem wPart_succ (f : Nat → St → St) (k : Nat) (t : St) : wPart f (k + 1) t = f k (wPart f k t) := by
 unfold wPart
 rw [List.range_succ, List.foldl_append]
 rfl
theorem wPart_len {f : Nat → St → St} {n cst : Nat} (hf : ∀ k t, k < n → (f k t).2.length ≤ t.2.length + cst) : ∀ (k : Nat) (t : St), k ≤ n → (wPart f k t).2.length ≤ t.2.length + cst * k
 | 0, t, _ => by simp [wPart]
 | k + 1, t, hk => by
  have h1 := wPart_len hf k t (by omega)
  have h2 := hf k (wPart f k t) (by omega)
  rw [wPart_succ, Nat.mul_succ]
  omega
theorem wListF_eq (size : Int) (n : Nat) (f : Nat → St → St) (s : St) : wListF size n f s = wPart f n (wNumsA size [(n : Int)] s) := rfl
def wList {α : Type} (size : Int) (f : α → St → St) (l : List α) (s : St) : St := l.foldl (fun t x => f x t) (wNumsA size [(l.length : Int)] s)
theorem wPart_list {α : Type} (l : List α) (d : α) (f : α → St → St) (t : St) : wPart (fun k => f (l.getD k d)) l.length t = l.foldl (fun t x => f x t) t := by
 have : ∀ k, k ≤ l.length → wPart (fun k => f (l.getD k d)) k t = (l.take k).foldl (fun t x => f x t) t := by
  intro k
  induction k with
  | zero => intro _; rfl
  | succ k ih =>
   intro hk
   rw [wPart_succ, ih (by omega), List.take_succ_eq_append_getElem (by omega), List.foldl_append, List.getD_eq_getElem?_getD, List.getElem?_eq_getElem (by omega)]
   rfl
 rw [this _ (Nat.le_refl _), List.take_of_length_le (Nat.le_refl _)]
theorem wListF_list {α : Type} (size : Int) (l : List α) (d : α) (f : α → St → St) (s : St) : wListF size l.length (fun k => f (l.getD k d)) s = wList size f l s := wPart_list l d f _
theorem wList_len {α : Type} (size : Int) (f : α → St → St) (l : List α) (s : St) (cst : Nat) (hf : ∀ x ∈ l, ∀ t, (f x t).2.length ≤ t.2.length + cst) : (wList size f l s).2.length ≤ s.2.length + 8 + cst * l.length := by
 have h1 := wNumsA_len size [(l.length : Int)] s
 simp only [List.length_cons, List.length_nil] at h1
 have h2 : ∀ (m : List α) (t : St), (∀ x ∈ m, x ∈ l) → (m.foldl (fun t x => f x t) t).2.length ≤ t.2.length + cst * m.length := by
  intro m
  induction m with
  | nil => intro t _; simp
  | cons x m ih =>
   intro t hm
   have h3 := hf x (hm x (by simp)) t
   have h4 := ih (f x t) (fun y hy => hm y (by simp [hy]))
   rw [List.foldl_cons, List.length_cons, Nat.mul_succ]
   omega
 have h3 := h2 l (wNumsA size [(l.length : Int)] s) (fun _ h => h)
 unfold wList
 omega
set_option maxHeartbeats 1000000 in
theorem wlSeg_any {F : Nat → Prop} {G g : Nat} {s : St} (size : Int) (A : Option Addr) (n c : Nat) (ss : List Sg) (B : Nat → Option Addr × Nat) (fn cst : Nat) (f : Nat → St → St) (w : World) (h : Wi w F G g s) (hA : Els w F A n c 4 (fun k => sgA (ss.getD k noSg) (B k))) (hE : ∀ (args : Array Value) (X : World), (callFunc fn args).run Tryz.prog X = .ok (.enter fn args) X)
  (hf : ∀ k t, k < n → (f k t).2.length ≤ t.2.length + cst) (hnn : n ≤ 140737488355328) (hn : s.2.length + 8 + cst * n ≤ 140737488355328)
  (HF : ∀ k (t : St) (X : World), k < n → Wi X F G g t → Kp F w X → t.2.length + cst ≤ 140737488355328 → Calls Tryz.prog fn #[.pointer (some ⟨G, 0, none⟩), .agg (sgA (ss.getD k noSg) (B k))] X (Wro X F G g (f k t))) :
  Calls Tryz.prog 78 #[.pointer (some ⟨G, 0, none⟩), .int .i64 size, .func (.func fn) #[.pointer (some ⟨G, 0, none⟩)] #[], .slice A n c] w (Wro w F G g (wListF size n f s)) := by
 have H := hD hA
 have HP := hD HF
 have HFL := hD hf
 have hcap := hA.cap
 have hc := h.c0
 have HN := hD (h.nums size [(n : Int)] (by simp only [List.forall_mem_cons]; exact ⟨len_i64 hnn, by simp⟩) (by simp; omega))
 have HN := hD (show Calls Tryz.prog 77 #[.pointer (some ⟨g, 0, none⟩), .int .i64 size, .slice (some ⟨w.heap.size, 0, none⟩) 1 1] (w.alloc (.cells #[.int .i64 (n : Int)] 3)) (Wro w F G g (wNumsA size [(n : Int)] s)) from HN.out)
 have HQ := hD (show (wNumsA size [(n : Int)] s).2.length + cst * n ≤ 140737488355328 by have h1 := wNumsA_len size [(n : Int)] s; simp only [List.length_cons, List.length_nil] at h1; omega)
 have HW := hD (wListF_eq size n f s)
 generalize wListF size n f s = fin at *
 generalize wNumsA size [(n : Int)] s = s1 at *
 clear h hA HF hf hn
 go_enter Tryz.func78, Tryz.ntmps78
 go_wp2_with (go_at_call 77; (with_reducible refine (HN.out).mono ?_); rintro en w1 ⟨rfl, hw, hk⟩; have HW1 := hD hw; have HK1 := hD hk; clear hw hk)
 clear HN hc
 go_loopw [21] (fun t wr => ∃ k : Nat, k ≤ n ∧ t = .int .i64 k ∧ Wi wr F G g (wPart f k s1) ∧ Kp F w wr) (fun t _ => n - (intOf t).toNat)
 case atStart => exact ⟨0, Nat.zero_le _, rfl, HW1.out, HK1.out⟩
 case round =>
  obtain ⟨k, hk, rfl, hw, hkp⟩ := hrel
  have HWR := hD hw
  have HKR := hD hkp
  clear hw hkp
  by_cases hlt : k < n
  ·
   obtain ⟨ad, rfl⟩ : ∃ ad, A = some ad := by
    cases A with
    | none => have := (H.out.nil rfl).1; omega
    | some ad => exact ⟨ad, rfl⟩
   obtain ⟨b, o, rfl⟩ := H.out.plain (by omega) rfl
   have hg := (H.out.keep fun k hk _ => HKR.out.block k hk).get k hlt
   have c0 := hg 0 _ rfl
   have c1 := hg 1 _ rfl
   have c2 := hg 2 _ rfl
   have c3 := hg 3 _ rfl
   simp only [Nat.add_zero] at c0
   clear hg
   have HPL := hD (wPart_succ f k s1)
   have HLE := hD (show (wPart f k s1).2.length + cst ≤ 140737488355328 by
    have h1 := wPart_len HFL.out k s1 (by omega)
    have h2 : cst * (k + 1) ≤ cst * n := Nat.mul_le_mul_left _ hlt
    rw [Nat.mul_succ] at h2
    have := HQ.out
    omega)
   have hbx := (Below.refl wr.heap.size wr).alloc (Nat.le_refl _) (.cells (sgA (ss.getD k noSg) (B k)) 61)
   have HKX := hD (HKR.out.trans (Kp.of_below hbx HWR.out.lt))
   have HC := hD (HP.out k _ (wr.alloc (.cells (sgA (ss.getD k noSg) (B k)) 61)) hlt (HWR.out.below hbx) HKX.out HLE.out)
   clear hbx
   generalize ss.getD k noSg = y at *
   go_wp2_with ((with_reducible refine (HC.out).mono ?_); rintro en w3 ⟨rfl, hw, hk3⟩; have HW3 := hD hw; have HK3 := hD hk3; clear hw hk3)
   go_roundw
   case rel => exact ⟨k + 1, by omega, by go_num, by rw [HPL.out]; exact HW3.out, HKX.out.trans HK3.out⟩
   case measure => simp [intOf]; omega
  ·
   obtain rfl : k = n := by omega
   go_wp2
   first | go_end0 | skip
   exact ⟨rfl, by rw [HW.out]; exact HWR.out, HKR.out⟩
set_option maxHeartbeats 1000000 in
theorem wlNeed_any {F : Nat → Prop} {G g : Nat} {s : St} (size : Int) (A : Option Addr) (n c : Nat) (ss : List Nd) (B : Nat → Option Addr × Nat) (fn cst : Nat) (f : Nat → St → St) (w : World) (h : Wi w F G g s) (hA : Els w F A n c 2 (fun k => ndA (ss.getD k noNd) (B k))) (hE : ∀ (args : Array Value) (X : World), (callFunc fn args).run Tryz.prog X = .ok (.enter fn args) X)
  (hf : ∀ k t, k < n → (f k t).2.length ≤ t.2.length + cst) (hnn : n ≤ 140737488355328) (hn : s.2.length + 8 + cst * n ≤ 140737488355328)
  (HF : ∀ k (t : St) (X : World), k < n → Wi X F G g t → Kp F w X → t.2.length + cst ≤ 140737488355328 → Calls Tryz.prog fn #[.pointer (some ⟨G, 0, none⟩), .agg (ndA (ss.getD k noNd) (B k))] X (Wro X F G g (f k t))) :
  Calls Tryz.prog 80 #[.pointer (some ⟨G, 0, none⟩), .int .i64 size, .func (.func fn) #[.pointer (some ⟨G, 0, none⟩)] #[], .slice A n c] w (Wro w F G g (wListF size n f s)) := by
 have H := hD hA
 have HP := hD HF
 have HFL := hD hf
 have hcap := hA.cap
 have hc := h.c0
 have HN := hD (h.nums size [(n : Int)] (by simp only [List.forall_mem_cons]; exact ⟨len_i64 hnn, by simp⟩) (by simp; omega))
 have HN := hD (show Calls Tryz.prog 77 #[.pointer (some ⟨g, 0, none⟩), .int .i64 size, .slice (some ⟨w.heap.size, 0, none⟩) 1 1] (w.alloc (.cells #[.int .i64 (n : Int)] 3)) (Wro w F G g (wNumsA size [(n : Int)] s)) from HN.out)
 have HQ := hD (show (wNumsA size [(n : Int)] s).2.length + cst * n ≤ 140737488355328 by have h1 := wNumsA_len size [(n : Int)] s; simp only [List.length_cons, List.length_nil] at h1; omega)
 have HW := hD (wListF_eq size n f s)
 generalize wListF size n f s = fin at *
 generalize wNumsA size [(n : Int)] s = s1 at *
 clear h hA HF hf hn
 go_enter Tryz.func80, Tryz.ntmps80
 go_wp2_with (go_at_call 77; (with_reducible refine (HN.out).mono ?_); rintro en w1 ⟨rfl, hw, hk⟩; have HW1 := hD hw; have HK1 := hD hk; clear hw hk)
 clear HN hc
 go_loopw [21] (fun t wr => ∃ k : Nat, k ≤ n ∧ t = .int .i64 k ∧ Wi wr F G g (wPart f k s1) ∧ Kp F w wr) (fun t _ => n - (intOf t).toNat)
 case atStart => exact ⟨0, Nat.zero_le _, rfl, HW1.out, HK1.out⟩
 case round =>
  obtain ⟨k, hk, rfl, hw, hkp⟩ := hrel
  have HWR := hD hw
  have HKR := hD hkp
  clear hw hkp
  by_cases hlt : k < n
  ·
   obtain ⟨ad, rfl⟩ : ∃ ad, A = some ad := by
    cases A with
    | none => have := (H.out.nil rfl).1; omega
    | some ad => exact ⟨ad, rfl⟩
   obtain ⟨b, o, rfl⟩ := H.out.plain (by omega) rfl
   have hg := (H.out.keep fun k hk _ => HKR.out.block k hk).get k hlt
   have c0 := hg 0 _ rfl
   have c1 := hg 1 _ rfl
   simp only [Nat.add_zero] at c0
   clear hg
   have HPL := hD (wPart_succ f k s1)
   have HLE := hD (show (wPart f k s1).2.length + cst ≤ 140737488355328 by
    have h1 := wPart_len HFL.out k s1 (by omega)
    have h2 : cst * (k + 1) ≤ cst * n := Nat.mul_le_mul_left _ hlt
    rw [Nat.mul_succ] at h2
    have := HQ.out
    omega)
   have hbx := (Below.refl wr.heap.size wr).alloc (Nat.le_refl _) (.cells (ndA (ss.getD k noNd) (B k)) 98)
   have HKX := hD (HKR.out.trans (Kp.of_below hbx HWR.out.lt))
   have HC := hD (HP.out k _ (wr.alloc (.cells (ndA (ss.getD k noNd) (B k)) 98)) hlt (HWR.out.below hbx) HKX.out HLE.out)
   clear hbx
   generalize ss.getD k noNd = y at *
   go_wp2_with ((with_reducible refine (HC.out).mono ?_); rintro en w3 ⟨rfl, hw, hk3⟩; have HW3 := hD hw; have HK3 := hD hk3; clear hw hk3)
   go_roundw
   case rel => exact ⟨k + 1, by omega, by go_num, by rw [HPL.out]; exact HW3.out, HKX.out.trans HK3.out⟩
   case measure => simp [intOf]; omega
  ·
   obtain rfl : k = n := by omega
   go_wp2
   first | go_end0 | skip
   exact ⟨rfl, by rw [HW.out]; exact HWR.out, HKR.out⟩
set_option maxHeartbeats 1000000 in
theorem wlSym_any {F : Nat → Prop} {G g : Nat} {s : St} (size : Int) (A : Option Addr) (n c : Nat) (ss : List Sym) (fn cst : Nat) (f : Nat → St → St) (w : World) (h : Wi w F G g s) (hA : Els w F A n c 9 (fun k => symA (ss.getD k noSy))) (hE : ∀ (args : Array Value) (X : World), (callFunc fn args).run Tryz.prog X = .ok (.enter fn args) X)
  (hf : ∀ k t, k < n → (f k t).2.length ≤ t.2.length + cst) (hnn : n ≤ 140737488355328) (hn : s.2.length + 8 + cst * n ≤ 140737488355328)
  (HF : ∀ k (t : St) (X : World), k < n → Wi X F G g t → Kp F w X → t.2.length + cst ≤ 140737488355328 → Calls Tryz.prog fn #[.pointer (some ⟨G, 0, none⟩), .agg (symA (ss.getD k noSy))] X (Wro X F G g (f k t))) :
  Calls Tryz.prog 83 #[.pointer (some ⟨G, 0, none⟩), .int .i64 size, .func (.func fn) #[.pointer (some ⟨G, 0, none⟩)] #[], .slice A n c] w (Wro w F G g (wListF size n f s)) := by
 have H := hD hA
 have HP := hD HF
 have HFL := hD hf
 have hcap := hA.cap
 have hc := h.c0
 have HN := hD (h.nums size [(n : Int)] (by simp only [List.forall_mem_cons]; exact ⟨len_i64 hnn, by simp⟩) (by simp; omega))
 have HN := hD (show Calls Tryz.prog 77 #[.pointer (some ⟨g, 0, none⟩), .int .i64 size, .slice (some ⟨w.heap.size, 0, none⟩) 1 1] (w.alloc (.cells #[.int .i64 (n : Int)] 3)) (Wro w F G g (wNumsA size [(n : Int)] s)) from HN.out)
 have HQ := hD (show (wNumsA size [(n : Int)] s).2.length + cst * n ≤ 140737488355328 by have h1 := wNumsA_len size [(n : Int)] s; simp only [List.length_cons, List.length_nil] at h1; omega)
 have HW := hD (wListF_eq size n f s)
 generalize wListF size n f s = fin at *
 generalize wNumsA size [(n : Int)] s = s1 at *
 clear h hA HF hf hn
 go_enter Tryz.func83, Tryz.ntmps83
 go_wp2_with (go_at_call 77; (with_reducible refine (HN.out).mono ?_); rintro en w1 ⟨rfl, hw, hk⟩; have HW1 := hD hw; have HK1 := hD hk; clear hw hk)
 clear HN hc
 go_loopw [21] (fun t wr => ∃ k : Nat, k ≤ n ∧ t = .int .i64 k ∧ Wi wr F G g (wPart f k s1) ∧ Kp F w wr) (fun t _ => n - (intOf t).toNat)
 case atStart => exact ⟨0, Nat.zero_le _, rfl, HW1.out, HK1.out⟩
 case round =>
  obtain ⟨k, hk, rfl, hw, hkp⟩ := hrel
  have HWR := hD hw
  have HKR := hD hkp
  clear hw hkp
  by_cases hlt : k < n
  ·
   obtain ⟨ad, rfl⟩ : ∃ ad, A = some ad := by
    cases A with
    | none => have := (H.out.nil rfl).1; omega
    | some ad => exact ⟨ad, rfl⟩
   obtain ⟨b, o, rfl⟩ := H.out.plain (by omega) rfl
   have hg := (H.out.keep fun k hk _ => HKR.out.block k hk).get k hlt
   have c0 := hg 0 _ rfl
   have c1 := hg 1 _ rfl
   have c2 := hg 2 _ rfl
   have c3 := hg 3 _ rfl
   have c4 := hg 4 _ rfl
   have c5 := hg 5 _ rfl
   have c6 := hg 6 _ rfl
   have c7 := hg 7 _ rfl
   have c8 := hg 8 _ rfl
   simp only [Nat.add_zero] at c0
   clear hg
   have HPL := hD (wPart_succ f k s1)
   have HLE := hD (show (wPart f k s1).2.length + cst ≤ 140737488355328 by
    have h1 := wPart_len HFL.out k s1 (by omega)
    have h2 : cst * (k + 1) ≤ cst * n := Nat.mul_le_mul_left _ hlt
    rw [Nat.mul_succ] at h2
    have := HQ.out
    omega)
   have hbx := (Below.refl wr.heap.size wr).alloc (Nat.le_refl _) (.cells (symA (ss.getD k noSy)) 105)
   have HKX := hD (HKR.out.trans (Kp.of_below hbx HWR.out.lt))
   have HC := hD (HP.out k _ (wr.alloc (.cells (symA (ss.getD k noSy)) 105)) hlt (HWR.out.below hbx) HKX.out HLE.out)
   clear hbx
   generalize ss.getD k noSy = y at *
   go_wp2_with ((with_reducible refine (HC.out).mono ?_); rintro en w3 ⟨rfl, hw, hk3⟩; have HW3 := hD hw; have HK3 := hD hk3; clear hw hk3)
   go_roundw
   case rel => exact ⟨k + 1, by omega, by go_num, by rw [HPL.out]; exact HW3.out, HKX.out.trans HK3.out⟩
   case measure => simp [intOf]; omega
  ·
   obtain rfl : k = n := by omega
   go_wp2
   first | go_end0 | skip
   exact ⟨rfl, by rw [HW.out]; exact HWR.out, HKR.out⟩
set_option maxHeartbeats 1000000 in
theorem wlRel_any {F : Nat → Prop} {G g : Nat} {s : St} (size : Int) (A : Option Addr) (n c : Nat) (ss : List Rl) (fn cst : Nat) (f : Nat → St → St) (w : World) (h : Wi w F G g s) (hA : Els w F A n c 4 (fun k => rlA (ss.getD k noRl))) (hE : ∀ (args : Array Value) (X : World), (callFunc fn args).run Tryz.prog X = .ok (.enter fn args) X)
  (hf : ∀ k t, k < n → (f k t).2.length ≤ t.2.length + cst) (hnn : n ≤ 140737488355328) (hn : s.2.length + 8 + cst * n ≤ 140737488355328)
  (HF : ∀ k (t : St) (X : World), k < n → Wi X F G g t → Kp F w X → t.2.length + cst ≤ 140737488355328 → Calls Tryz.prog fn #[.pointer (some ⟨G, 0, none⟩), .agg (rlA (ss.getD k noRl))] X (Wro X F G g (f k t))) :
  Calls Tryz.prog 86 #[.pointer (some ⟨G, 0, none⟩), .int .i64 size, .func (.func fn) #[.pointer (some ⟨G, 0, none⟩)] #[], .slice A n c] w (Wro w F G g (wListF size n f s)) := by
 have H := hD hA
 have HP := hD HF
 have HFL := hD hf
 have hcap := hA.cap
 have hc := h.c0
 have HN := hD (h.nums size [(n : Int)] (by simp only [List.forall_mem_cons]; exact ⟨len_i64 hnn, by simp⟩) (by simp; omega))
 have HN := hD (show Calls Tryz.prog 77 #[.pointer (some ⟨g, 0, none⟩), .int .i64 size, .slice (some ⟨w.heap.size, 0, none⟩) 1 1] (w.alloc (.cells #[.int .i64 (n : Int)] 3)) (Wro w F G g (wNumsA size [(n : Int)] s)) from HN.out)
 have HQ := hD (show (wNumsA size [(n : Int)] s).2.length + cst * n ≤ 140737488355328 by have h1 := wNumsA_len size [(n : Int)] s; simp only [List.length_cons, List.length_nil] at h1; omega)
 have HW := hD (wListF_eq size n f s)
 generalize wListF size n f s = fin at *
 generalize wNumsA size [(n : Int)] s = s1 at *
 clear h hA HF hf hn
 go_enter Tryz.func86, Tryz.ntmps86
 go_wp2_with (go_at_call 77; (with_reducible refine (HN.out).mono ?_); rintro en w1 ⟨rfl, hw, hk⟩; have HW1 := hD hw; have HK1 := hD hk; clear hw hk)
 clear HN hc
 go_loopw [21] (fun t wr => ∃ k : Nat, k ≤ n ∧ t = .int .i64 k ∧ Wi wr F G g (wPart f k s1) ∧ Kp F w wr) (fun t _ => n - (intOf t).toNat)
 case atStart => exact ⟨0, Nat.zero_le _, rfl, HW1.out, HK1.out⟩
 case round =>
  obtain ⟨k, hk, rfl, hw, hkp⟩ := hrel
  have HWR := hD hw
  have HKR := hD hkp
  clear hw hkp
  by_cases hlt : k < n
  ·
   obtain ⟨ad, rfl⟩ : ∃ ad, A = some ad := by
    cases A with
    | none => have := (H.out.nil rfl).1; omega
    | some ad => exact ⟨ad, rfl⟩
   obtain ⟨b, o, rfl⟩ := H.out.plain (by omega) rfl
   have hg := (H.out.keep fun k hk _ => HKR.out.block k hk).get k hlt
   have c0 := hg 0 _ rfl
   have c1 := hg 1 _ rfl
   have c2 := hg 2 _ rfl
   have c3 := hg 3 _ rfl
   simp only [Nat.add_zero] at c0
   clear hg
   have HPL := hD (wPart_succ f k s1)
   have HLE := hD (show (wPart f k s1).2.length + cst ≤ 140737488355328 by
    have h1 := wPart_len HFL.out k s1 (by omega)
    have h2 : cst * (k + 1) ≤ cst * n := Nat.mul_le_mul_left _ hlt
    rw [Nat.mul_succ] at h2
    have := HQ.out
    omega)
   have hbx := (Below.refl wr.heap.size wr).alloc (Nat.le_refl _) (.cells (rlA (ss.getD k noRl)) 57)
   have HKX := hD (HKR.out.trans (Kp.of_below hbx HWR.out.lt))
   have HC := hD (HP.out k _ (wr.alloc (.cells (rlA (ss.getD k noRl)) 57)) hlt (HWR.out.below hbx) HKX.out HLE.out)
   clear hbx
   generalize ss.getD k noRl = y at *
   go_wp2_with ((with_reducible refine (HC.out).mono ?_); rintro en w3 ⟨rfl, hw, hk3⟩; have HW3 := hD hw; have HK3 := hD hk3; clear hw hk3)
   go_roundw
   case rel => exact ⟨k + 1, by omega, by go_num, by rw [HPL.out]; exact HW3.out, HKX.out.trans HK3.out⟩
   case measure => simp [intOf]; omega
  ·
   obtain rfl : k = n := by omega
   go_wp2
   first | go_end0 | skip
   exact ⟨rfl, by rw [HW.out]; exact HWR.out, HKR.out⟩
set_option maxHeartbeats 1000000 in
theorem wlSlot_any {F : Nat → Prop} {G g : Nat} {s : St} (size : Int) (A : Option Addr) (n c : Nat) (ss : List Sl) (fn cst : Nat) (f : Nat → St → St) (w : World) (h : Wi w F G g s) (hA : Els w F A n c 3 (fun k => slA (ss.getD k noSl))) (hE : ∀ (args : Array Value) (X : World), (callFunc fn args).run Tryz.prog X = .ok (.enter fn args) X)
  (hf : ∀ k t, k < n → (f k t).2.length ≤ t.2.length + cst) (hnn : n ≤ 140737488355328) (hn : s.2.length + 8 + cst * n ≤ 140737488355328)
  (HF : ∀ k (t : St) (X : World), k < n → Wi X F G g t → Kp F w X → t.2.length + cst ≤ 140737488355328 → Calls Tryz.prog fn #[.pointer (some ⟨G, 0, none⟩), .agg (slA (ss.getD k noSl))] X (Wro X F G g (f k t))) :
  Calls Tryz.prog 88 #[.pointer (some ⟨G, 0, none⟩), .int .i64 size, .func (.func fn) #[.pointer (some ⟨G, 0, none⟩)] #[], .slice A n c] w (Wro w F G g (wListF size n f s)) := by
 have H := hD hA
 have HP := hD HF
 have HFL := hD hf
 have hcap := hA.cap
 have hc := h.c0
 have HN := hD (h.nums size [(n : Int)] (by simp only [List.forall_mem_cons]; exact ⟨len_i64 hnn, by simp⟩) (by simp; omega))
 have HN := hD (show Calls Tryz.prog 77 #[.pointer (some ⟨g, 0, none⟩), .int .i64 size, .slice (some ⟨w.heap.size, 0, none⟩) 1 1] (w.alloc (.cells #[.int .i64 (n : Int)] 3)) (Wro w F G g (wNumsA size [(n : Int)] s)) from HN.out)
 have HQ := hD (show (wNumsA size [(n : Int)] s).2.length + cst * n ≤ 140737488355328 by have h1 := wNumsA_len size [(n : Int)] s; simp only [List.length_cons, List.length_nil] at h1; omega)
 have HW := hD (wListF_eq size n f s)
 generalize wListF size n f s = fin at *
 generalize wNumsA size [(n : Int)] s = s1 at *
 clear h hA HF hf hn
 go_enter Tryz.func88, Tryz.ntmps88
 go_wp2_with (go_at_call 77; (with_reducible refine (HN.out).mono ?_); rintro en w1 ⟨rfl, hw, hk⟩; have HW1 := hD hw; have HK1 := hD hk; clear hw hk)
 clear HN hc
 go_loopw [21] (fun t wr => ∃ k : Nat, k ≤ n ∧ t = .int .i64 k ∧ Wi wr F G g (wPart f k s1) ∧ Kp F w wr) (fun t _ => n - (intOf t).toNat)
 case atStart => exact ⟨0, Nat.zero_le _, rfl, HW1.out, HK1.out⟩
 case round =>
  obtain ⟨k, hk, rfl, hw, hkp⟩ := hrel
  have HWR := hD hw
  have HKR := hD hkp
  clear hw hkp
  by_cases hlt : k < n
  ·
   obtain ⟨ad, rfl⟩ : ∃ ad, A = some ad := by
    cases A with
    | none => have := (H.out.nil rfl).1; omega
    | some ad => exact ⟨ad, rfl⟩
   obtain ⟨b, o, rfl⟩ := H.out.plain (by omega) rfl
   have hg := (H.out.keep fun k hk _ => HKR.out.block k hk).get k hlt
   have c0 := hg 0 _ rfl
   have c1 := hg 1 _ rfl
   have c2 := hg 2 _ rfl
   simp only [Nat.add_zero] at c0
   clear hg
   have HPL := hD (wPart_succ f k s1)
   have HLE := hD (show (wPart f k s1).2.length + cst ≤ 140737488355328 by
    have h1 := wPart_len HFL.out k s1 (by omega)
    have h2 : cst * (k + 1) ≤ cst * n := Nat.mul_le_mul_left _ hlt
    rw [Nat.mul_succ] at h2
    have := HQ.out
    omega)
   have hbx := (Below.refl wr.heap.size wr).alloc (Nat.le_refl _) (.cells (slA (ss.getD k noSl)) 112)
   have HKX := hD (HKR.out.trans (Kp.of_below hbx HWR.out.lt))
   have HC := hD (HP.out k _ (wr.alloc (.cells (slA (ss.getD k noSl)) 112)) hlt (HWR.out.below hbx) HKX.out HLE.out)
   clear hbx
   generalize ss.getD k noSl = y at *
   go_wp2_with ((with_reducible refine (HC.out).mono ?_); rintro en w3 ⟨rfl, hw, hk3⟩; have HW3 := hD hw; have HK3 := hD hk3; clear hw hk3)
   go_roundw
   case rel => exact ⟨k + 1, by omega, by go_num, by rw [HPL.out]; exact HW3.out, HKX.out.trans HK3.out⟩
   case measure => simp [intOf]; omega
  ·
   obtain rfl : k = n := by omega
   go_wp2
   first | go_end0 | skip
   exact ⟨rfl, by rw [HW.out]; exact HWR.out, HKR.out⟩
set_option maxHeartbeats 1000000 in
theorem wlRow_any {F : Nat → Prop} {G g : Nat} {s : St} (size : Int) (A : Option Addr) (n c : Nat) (rf : Nat → List Int) (fn cst : Nat) (f : Nat → St → St) (w : World) (h : Wi w F G g s) (hA : Rws w F A n c rf) (hE : ∀ (args : Array Value) (X : World), (callFunc fn args).run Tryz.prog X = .ok (.enter fn args) X)
  (hf : ∀ k t, k < n → (f k t).2.length ≤ t.2.length + cst) (hnn : n ≤ 140737488355328) (hn : s.2.length + 8 + cst * n ≤ 140737488355328)
  (HF : ∀ k (t : St) (X : World) (Ai : Option Addr) (ci : Nat), k < n → Src X F Ai (rf k).length ci (il (rf k)) → Wi X F G g t → Kp F w X → t.2.length + cst ≤ 140737488355328 → Calls Tryz.prog fn #[.pointer (some ⟨G, 0, none⟩), .slice Ai (rf k).length ci] X (Wro X F G g (f k t))) :
  Calls Tryz.prog 156 #[.pointer (some ⟨G, 0, none⟩), .int .i64 size, .func (.func fn) #[.pointer (some ⟨G, 0, none⟩)] #[], .slice A n c] w (Wro w F G g (wListF size n f s)) := by
 have H := hD hA
 have HP := hD HF
 have HFL := hD hf
 have hcap := hA.cap
 have hc := h.c0
 have HN := hD (h.nums size [(n : Int)] (by simp only [List.forall_mem_cons]; exact ⟨len_i64 hnn, by simp⟩) (by simp; omega))
 have HN := hD (show Calls Tryz.prog 77 #[.pointer (some ⟨g, 0, none⟩), .int .i64 size, .slice (some ⟨w.heap.size, 0, none⟩) 1 1] (w.alloc (.cells #[.int .i64 (n : Int)] 3)) (Wro w F G g (wNumsA size [(n : Int)] s)) from HN.out)
 have HQ := hD (show (wNumsA size [(n : Int)] s).2.length + cst * n ≤ 140737488355328 by have h1 := wNumsA_len size [(n : Int)] s; simp only [List.length_cons, List.length_nil] at h1; omega)
 have HW := hD (wListF_eq size n f s)
 generalize wListF size n f s = fin at *
 generalize wNumsA size [(n : Int)] s = s1 at *
 clear h hA HF hf hn
 go_enter Tryz.func156, Tryz.ntmps156
 go_wp2_with (go_at_call 77; (with_reducible refine (HN.out).mono ?_); rintro en w1 ⟨rfl, hw, hk⟩; have HW1 := hD hw; have HK1 := hD hk; clear hw hk)
 clear HN hc
 go_loopw [21] (fun t wr => ∃ k : Nat, k ≤ n ∧ t = .int .i64 k ∧ Wi wr F G g (wPart f k s1) ∧ Kp F w wr) (fun t _ => n - (intOf t).toNat)
 case atStart => exact ⟨0, Nat.zero_le _, rfl, HW1.out, HK1.out⟩
 case round =>
  obtain ⟨k, hk, rfl, hw, hkp⟩ := hrel
  have HWR := hD hw
  have HKR := hD hkp
  clear hw hkp
  by_cases hlt : k < n
  ·
   obtain ⟨ad, rfl⟩ : ∃ ad, A = some ad := by
    cases A with
    | none => have := (H.out.nil rfl).1; omega
    | some ad => exact ⟨ad, rfl⟩
   obtain ⟨Ai, ci, hcell, hsrc⟩ := (H.out.keep (w' := wr) fun k hk _ => HKR.out.block k hk).at_ ad rfl k hlt
   have HPL := hD (wPart_succ f k s1)
   have HLE := hD (show (wPart f k s1).2.length + cst ≤ 140737488355328 by
    have h1 := wPart_len HFL.out k s1 (by omega)
    have h2 : cst * (k + 1) ≤ cst * n := Nat.mul_le_mul_left _ hlt
    rw [Nat.mul_succ] at h2
    have := HQ.out
    omega)
   have HC := hD (HP.out k _ wr Ai ci hlt hsrc HWR.out HKR.out HLE.out)
   have HKX := hD HKR.out
   clear hsrc
   go_wp2_with ((with_reducible refine (HC.out).mono ?_); rintro en w3 ⟨rfl, hw, hk3⟩; have HW3 := hD hw; have HK3 := hD hk3; clear hw hk3)
   go_roundw
   case rel => exact ⟨k + 1, by omega, by go_num, by rw [HPL.out]; exact HW3.out, HKX.out.trans HK3.out⟩
   case measure => simp [intOf]; omega
  ·
   obtain rfl : k = n := by omega
   go_wp2
   first | go_end0 | skip
   exact ⟨rfl, by rw [HW.out]; exact HWR.out, HKR.out⟩
set_option maxHeartbeats 1000000 in
theorem wlWord_any {F : Nat → Prop} {G g : Nat} {s : St} (size : Int) (A : Option Addr) (n c : Nat) (L : List UInt64) (fn cst : Nat) (f : Nat → St → St) (w : World) (h : Wi w F G g s) (hA : Src w F A n c (Siv.wds L)) (hE : ∀ (args : Array Value) (X : World), (callFunc fn args).run Tryz.prog X = .ok (.enter fn args) X)
  (hf : ∀ k t, k < n → (f k t).2.length ≤ t.2.length + cst) (hnn : n ≤ 140737488355328) (hn : s.2.length + 8 + cst * n ≤ 140737488355328)
  (HF : ∀ k (t : St) (X : World), k < n → Wi X F G g t → Kp F w X → t.2.length + cst ≤ 140737488355328 → Calls Tryz.prog fn #[.pointer (some ⟨G, 0, none⟩), Siv.u64v (L.getD k 0)] X (Wro X F G g (f k t))) :
  Calls Tryz.prog 158 #[.pointer (some ⟨G, 0, none⟩), .int .i64 size, .func (.func fn) #[.pointer (some ⟨G, 0, none⟩)] #[], .slice A n c] w (Wro w F G g (wListF size n f s)) := by
 have H := hD hA
 have HP := hD HF
 have HFL := hD hf
 have hcap := hA.cap
 have hc := h.c0
 have HN := hD (h.nums size [(n : Int)] (by simp only [List.forall_mem_cons]; exact ⟨len_i64 hnn, by simp⟩) (by simp; omega))
 have HN := hD (show Calls Tryz.prog 77 #[.pointer (some ⟨g, 0, none⟩), .int .i64 size, .slice (some ⟨w.heap.size, 0, none⟩) 1 1] (w.alloc (.cells #[.int .i64 (n : Int)] 3)) (Wro w F G g (wNumsA size [(n : Int)] s)) from HN.out)
 have HQ := hD (show (wNumsA size [(n : Int)] s).2.length + cst * n ≤ 140737488355328 by have h1 := wNumsA_len size [(n : Int)] s; simp only [List.length_cons, List.length_nil] at h1; omega)
 have HW := hD (wListF_eq size n f s)
 generalize wListF size n f s = fin at *
 generalize wNumsA size [(n : Int)] s = s1 at *
 clear h hA HF hf hn
 go_enter Tryz.func158, Tryz.ntmps158
 go_wp2_with (go_at_call 77; (with_reducible refine (HN.out).mono ?_); rintro en w1 ⟨rfl, hw, hk⟩; have HW1 := hD hw; have HK1 := hD hk; clear hw hk)
 clear HN hc
 go_loopw [21] (fun t wr => ∃ k : Nat, k ≤ n ∧ t = .int .i64 k ∧ Wi wr F G g (wPart f k s1) ∧ Kp F w wr) (fun t _ => n - (intOf t).toNat)
 case atStart => exact ⟨0, Nat.zero_le _, rfl, HW1.out, HK1.out⟩
 case round =>
  obtain ⟨k, hk, rfl, hw, hkp⟩ := hrel
  have HWR := hD hw
  have HKR := hD hkp
  clear hw hkp
  by_cases hlt : k < n
  ·
   obtain ⟨ad, rfl⟩ : ∃ ad, A = some ad := by
    cases A with
    | none => have := (H.out.nil rfl).1; omega
    | some ad => exact ⟨ad, rfl⟩
   have hkl : k < L.length := by have := H.out.len; simp [Siv.wds] at this; omega
   have hcell : wr.cell? (ad.add k) = some (.int .u64 ((L.getD k 0).toNat : Int)) := (H.out.kp HKR.out).at_ ad rfl k _ (by simp [Siv.wds, List.getElem?_eq_getElem hkl, List.getD_eq_getElem?_getD])
   have HPL := hD (wPart_succ f k s1)
   have HLE := hD (show (wPart f k s1).2.length + cst ≤ 140737488355328 by
    have h1 := wPart_len HFL.out k s1 (by omega)
    have h2 : cst * (k + 1) ≤ cst * n := Nat.mul_le_mul_left _ hlt
    rw [Nat.mul_succ] at h2
    have := HQ.out
    omega)
   have HC := hD (HP.out k _ wr hlt HWR.out HKR.out HLE.out)
   have HKX := hD HKR.out
   generalize L.getD k 0 = y at *
   go_wp2_with ((with_reducible refine (HC.out).mono ?_); rintro en w3 ⟨rfl, hw, hk3⟩; have HW3 := hD hw; have HK3 := hD hk3; clear hw hk3)
   go_roundw
   case rel => exact ⟨k + 1, by omega, by go_num, by rw [HPL.out]; exact HW3.out, HKX.out.trans HK3.out⟩
   case measure => simp [intOf]; omega
  ·
   obtain rfl : k = n := by omega
   go_wp2
   first | go_end0 | skip
   exact ⟨rfl, by rw [HW.out]; exact HWR.out, HKR.out⟩
end Go.Proofs.YtfljignkjmabpaaGreat
