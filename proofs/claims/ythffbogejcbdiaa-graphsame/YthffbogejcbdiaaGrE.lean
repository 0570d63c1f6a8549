/-
  Package graph as landed: the parts of a Code.
-/
import Derived.Test.YthffbogejcbdiaaLotP12
namespace Go.Proofs.Ythffbogejcbdiaa
open Go.RowKit Go.Shelf
set_option maxRecDepth 100000

attribute [local go_sem] Oper.semAt_some

set_option maxHeartbeats 1000000 in
theorem iclone_any (ad : Addr) (ca : Nat) (xs : List In) (w : World) (ha : CV w (some ad) (flat xs)) (hm : xs.length * 8 ≤ 140737488355328) :
    Calls Try.prog 54 #[.slice (some ad) xs.length ca] w fun e w' => ∃ v, e = .returned v ∧ IOwns w' w.heap.size v xs ∧ w.grownBy w' none := by
  obtain ⟨i0, hi, hz0, hz1, hz2⟩ := info_parts info46
  have H : Hid (CV w (some ad) (flat xs)) := ha
  have HNQ : ∀ W : World, (binOp .eql 22 (.slice (some ad) xs.length ca) (.slice none 0 0)).run Try.prog W = .ok (.bool false) W := fun W => by kernel_rfl
  clear ha
  go_enter Try.func54, Try.ntmps54
  go_wp2_with (at_builtin; refine wpList_append_cv rfl (.tmp 5) (.tmp 6) 22 rfl 46 i0 _ 4 8 Try.underlying22 hi hz0 hz1 hz2 rfl (by decide) w.heap.size _ 0 [] rfl ?q1 (some ad) xs.length ca (flat xs) rfl (flat_len xs) (by simp) ?q2 (flat_one xs) ?q3 ?q4 ?q5 ?q6)
  case q1 => exact World.ownsRow_made w #[] 0 (Nat.le_refl _) (Nat.zero_le _) rfl
  case q2 => exact H.out.keptNone (World.grownBy_alloc _ _ _)
  case q3 => unfold maxLen; omega
  case q4 => omega
  case q5 => simp
  case q6 =>
    intro v' w' h1 h2
    have G : w.grownBy w' none := grown_trans_new (World.grownBy_alloc w _ _) h2 (by intro x hx; simp [Value.ownBlock] at hx; omega)
    have O : IOwns w' w.heap.size v' xs := by simpa using h1
    clear h2 h1
    go_wp2
    go_ret
    exact ⟨v', rfl, O, G⟩

theorem chunk_any (v : Value) (m : Nat) (hm : 1 ≤ m) (w : World) (hv : v.oneCell' = true) :
    Calls Try.prog 53 #[v, .int .i64 (m : Int)] w fun e w' => e = .returned (.func (.func 95) #[] #[.pointer (some ⟨w.heap.size, 0, none⟩), .pointer (some ⟨w.heap.size + 1, 0, none⟩)]) ∧ w' = (w.alloc (.cells #[v] 22)).alloc (.cells #[.int .i64 (m : Int)] 3) := by
  have h1 : ¬ (m : Int) < 1 := by omega
  go_enter Try.func53, Try.ntmps53
  go_wp2
  go_ret
  exact ⟨rfl, rfl⟩

/-- A part: where it begins, and how long it is. -/
structure Ck (m N : Nat) where
  i : Nat
  l : Nat
  ok : 1 ≤ l ∧ l ≤ m ∧ i + l ≤ N
/-- The parts, in order. -/
def chunkL (m n : Nat) (hm : 1 ≤ m) : Nat → Nat → List (Ck m n)
  | 0, _ => []
  | f + 1, i => if h : i < n then ⟨i, min m (n - i), by omega⟩ :: chunkL m n hm f (i + m) else []
theorem chunkL_over (m n : Nat) (hm : 1 ≤ m) (f i : Nat) (h : ¬ i < n) : chunkL m n hm f i = [] := by cases f <;> simp [chunkL, h]
theorem chunkL_more (m n : Nat) (hm : 1 ≤ m) : ∀ f i, n ≤ f + i → i < n → ∀ L, min m (n - i) = L → ∀ ok, chunkL m n hm f i = ⟨i, L, ok⟩ :: chunkL m n hm (f - 1) (i + m)
  | 0, i, h, hi, _, _, _ => by omega
  | f + 1, i, h, hi, L, hL, ok => by subst hL; rw [chunkL, dif_pos hi, Nat.add_sub_cancel]
theorem chunkL_len (m n : Nat) (hm : 1 ≤ m) : ∀ f i, (chunkL m n hm f i).length ≤ f
  | 0, i => by simp [chunkL]
  | f + 1, i => by
    rw [chunkL]
    split
    · simp only [List.length_cons]
      have := chunkL_len m n hm f (i + m)
      omega
    · simp

abbrev encC {m N : Nat} (b o : Nat) (p : Ck m N) : Array Value := #[.slice (some ⟨b, o + p.i * 4, none⟩) p.l p.l]

set_option maxRecDepth 100000 in
set_option maxHeartbeats 2000000 in
theorem chunk1_in (n : Nat) (hn : 1 ≤ n) (l Bs Bm n₀ b o N ca m : Nat) (S : Nat → Prop) (hm : 1 ≤ m) (hm2 : m ≤ 4611686018427387904) (hN : N ≤ 4611686018427387904) (hca : N ≤ ca) (hS : S Bm ∨ Bm < n₀) (hSs : S Bs ∨ Bs < n₀) (J Jx : List (Ck m N) → World → Prop)
    (hY : ∀ pre x W, J pre W → pre.length < N → YieldAt Fence.wide (n - 1) Try.prog l (encC b o x) W fun e W' =>
      (e = .returned (.bool true) ∧ J (pre ++ [x]) W' ∧ Kp n₀ S W W') ∨ (e = .returned (.bool false) ∧ Jx (pre ++ [x]) W'))
    (W : World) (hJ : AbidesFrom W.heap.size J) (hBs : W.cell? ⟨Bs, 0, none⟩ = some (.slice (some ⟨b, o, none⟩) N ca)) (hBm : W.cell? ⟨Bm, 0, none⟩ = some (.int .i64 (m : Int))) (h0 : J [] W) :
    CallsIn Fence.wide n Try.prog 95 #[.func (.yield l) #[] #[], .pointer (some ⟨Bs, 0, none⟩), .pointer (some ⟨Bm, 0, none⟩)] W fun e W' => (∃ v, e = .returned v) ∧
      ((∃ ys, ys = chunkL m N hm N 0 ∧ J ys W') ∨ (∃ pre, pre <+: chunkL m N hm N 0 ∧ Jx pre W')) := by
  refine callsIn_of_wp Try.func95 rfl trivial ?_ rfl
  simp only [Try.ntmps95, List.size_toArray, List.length_cons, List.length_nil, Nat.reduceAdd, Nat.reduceSub, Array.replicate_succ, Array.replicate_zero, List.push_toArray, List.append_toArray, List.nil_append, List.cons_append]
  gi_wp2
  gi_loopw [4] (fun i wr => ∃ (pre : List (Ck m N)) (k : Nat), i = .int .i64 (k : Int) ∧ pre.length ≤ N ∧ pre.length ≤ k ∧ k ≤ N + m ∧ Hid (chunkL m N hm N 0 = pre ++ chunkL m N hm (N - pre.length) k) ∧ J pre wr ∧ wr.cell? ⟨Bm, 0, none⟩ = some (.int .i64 (m : Int)) ∧ wr.cell? ⟨Bs, 0, none⟩ = some (.slice (some ⟨b, o, none⟩) N ca) ∧ W.heap.size ≤ wr.heap.size) (fun i _ => N + 1 - (intOf i).toNat)
  case atStart => exact ⟨[], 0, rfl, Nat.zero_le _, Nat.zero_le _, by omega, (show chunkL m N hm N 0 = _ by simp), h0, hBm, hBs, Nat.le_refl _⟩
  case round =>
    clear h0 hBs hBm
    obtain ⟨pre, k, rfl, hp1, hp2, hk, HN, hJs, hcm, hcs, hsz⟩ := hrel
    by_cases hlt : k < N
    · have hl : (k : Int) < (N : Int) := by omega
      have hl2 : pre.length < N := by omega
      have hl3 : (k : Int) ≤ (N : Int) := by omega
      have hfol : Try.prog.follows Departure.mixedOrders = true := by kernel_rfl
      have hl4 : (k : Int) ≤ (ca : Int) := by omega
      have ha1 : (N : Int) ≤ (ca : Int) := by omega
      by_cases hmin : N - k < m
      · have hmin' : ((N - k : Nat) : Int) < (m : Int) := by omega
        have hLe : min m (N - k) = (N - k) := by omega
        have hsum : (k : Int) + (((N - k) : Nat) : Int) ≤ (N : Int) := by omega
        have hsum2 : (k : Int) + (((N - k) : Nat) : Int) ≤ (ca : Int) := by omega
        have hs0 : (k : Int) ≤ (k : Int) + (((N - k) : Nat) : Int) := by omega
        have hok : 1 ≤ (N - k) ∧ (N - k) ≤ m ∧ k + (N - k) ≤ N := by omega
        have HN3 : Hid (chunkL m N hm N 0 = (pre ++ [⟨k, (N - k), hok⟩]) ++ chunkL m N hm (N - (pre ++ [(⟨k, (N - k), hok⟩ : Ck m N)]).length) (k + m)) := by
          show _ = _
          rw [HN.out, chunkL_more m N hm _ k (by omega) hlt _ hLe hok]
          simp only [List.length_append, List.length_singleton, List.append_assoc, List.cons_append, List.nil_append, Nat.sub_sub]
        have HX : Hid (1 ≤ (N - k) ∧ k + (N - k) ≤ N) := ⟨by omega, by omega⟩
        gi_wp2
        gi_region_o
        gi_wp2
        have eL : ((k : Int) + (((N - k) : Nat) : Int)).toNat - k = (N - k) := by omega
        try rw [eL]
        generalize hLL : (N - k) = L at *
        have hJ1 : J pre (wr.drewN 1) := hJ pre wr _ none hJs (grown_drewN wr 1 none) (fun r e => by cases e)
        obtain ⟨fn, tmps, assign, body, hy, hR⟩ := hY pre ⟨k, L, hok⟩ (wr.drewN 1) hJ1 hl2
        dsimp only [encC] at hy
        have hcm1 : (wr.drewN 1).cell? ⟨Bm, 0, none⟩ = some (.int .i64 (m : Int)) := (grown_drewN wr 1 none).cell hcm (by simp)
        have hcs1 : (wr.drewN 1).cell? ⟨Bs, 0, none⟩ = some (.slice (some ⟨b, o, none⟩) N ca) := (grown_drewN wr 1 none).cell hcs (by simp)
        have hsz1 : W.heap.size ≤ (wr.drewN 1).heap.size := Nat.le_trans hsz (grown_drewN wr 1 none).size
        rw [show wr.drew = wr.drewN 1 from rfl]
        clear hJs hcm hcs HN hsz hJ1
        generalize wr.drewN 1 = wk at *
        rw [hy, Oper.uponIn_round]
        refine ⟨fun _ => hn, hR.mono ?_⟩
        rintro e W3 (⟨rfl, hJ3, hk3⟩ | ⟨rfl, hJx3⟩)
        · have hcm3 := hk3.cell (a := ⟨Bm, 0, none⟩) (hS.elim .inr .inl) hcm1
          have hcs3 := hk3.cell (a := ⟨Bs, 0, none⟩) (hSs.elim .inr .inl) hcs1
          have hsz3 : W.heap.size ≤ W3.heap.size := Nat.le_trans hsz1 hk3.1.size
          clear hcm1 hcs1 hsz1
          gi_wp2
          go_roundw
          case rel => exact ⟨pre ++ [⟨k, L, hok⟩], k + m, by simp, by simp; omega, by simp; omega, by omega, HN3, hJ3, hcm3, hcs3, hsz3⟩
          case measure => simp [intOf]; omega
        · gi_wp2
          refine bodyPost_ret (results_none rfl _ _ _) rfl ?_
          exact ⟨⟨_, rfl⟩, .inr ⟨pre ++ [⟨k, L, hok⟩], ⟨_, HN3.out.symm⟩, hJx3⟩⟩
      · have hmin' : ¬ ((N - k : Nat) : Int) < (m : Int) := by omega
        have hLe : min m (N - k) = m := by omega
        have hsum : (k : Int) + ((m : Nat) : Int) ≤ (N : Int) := by omega
        have hsum2 : (k : Int) + ((m : Nat) : Int) ≤ (ca : Int) := by omega
        have hs0 : (k : Int) ≤ (k : Int) + ((m : Nat) : Int) := by omega
        have hok : 1 ≤ m ∧ m ≤ m ∧ k + m ≤ N := by omega
        have HN3 : Hid (chunkL m N hm N 0 = (pre ++ [⟨k, m, hok⟩]) ++ chunkL m N hm (N - (pre ++ [(⟨k, m, hok⟩ : Ck m N)]).length) (k + m)) := by
          show _ = _
          rw [HN.out, chunkL_more m N hm _ k (by omega) hlt _ hLe hok]
          simp only [List.length_append, List.length_singleton, List.append_assoc, List.cons_append, List.nil_append, Nat.sub_sub]
        have HX : Hid (1 ≤ m ∧ k + m ≤ N) := ⟨by omega, by omega⟩
        gi_wp2
        gi_region_o
        gi_wp2
        have eL : ((k : Int) + ((m : Nat) : Int)).toNat - k = m := by omega
        try rw [eL]
        have hJ1 : J pre (wr.drewN 1) := hJ pre wr _ none hJs (grown_drewN wr 1 none) (fun r e => by cases e)
        obtain ⟨fn, tmps, assign, body, hy, hR⟩ := hY pre ⟨k, m, hok⟩ (wr.drewN 1) hJ1 hl2
        dsimp only [encC] at hy
        have hcm1 : (wr.drewN 1).cell? ⟨Bm, 0, none⟩ = some (.int .i64 (m : Int)) := (grown_drewN wr 1 none).cell hcm (by simp)
        have hcs1 : (wr.drewN 1).cell? ⟨Bs, 0, none⟩ = some (.slice (some ⟨b, o, none⟩) N ca) := (grown_drewN wr 1 none).cell hcs (by simp)
        have hsz1 : W.heap.size ≤ (wr.drewN 1).heap.size := Nat.le_trans hsz (grown_drewN wr 1 none).size
        rw [show wr.drew = wr.drewN 1 from rfl]
        clear hJs hcm hcs HN hsz hJ1
        generalize wr.drewN 1 = wk at *
        rw [hy, Oper.uponIn_round]
        refine ⟨fun _ => hn, hR.mono ?_⟩
        rintro e W3 (⟨rfl, hJ3, hk3⟩ | ⟨rfl, hJx3⟩)
        · have hcm3 := hk3.cell (a := ⟨Bm, 0, none⟩) (hS.elim .inr .inl) hcm1
          have hcs3 := hk3.cell (a := ⟨Bs, 0, none⟩) (hSs.elim .inr .inl) hcs1
          have hsz3 : W.heap.size ≤ W3.heap.size := Nat.le_trans hsz1 hk3.1.size
          clear hcm1 hcs1 hsz1
          gi_wp2
          go_roundw
          case rel => exact ⟨pre ++ [⟨k, m, hok⟩], k + m, by simp, by simp; omega, by simp; omega, by omega, HN3, hJ3, hcm3, hcs3, hsz3⟩
          case measure => simp [intOf]; omega
        · gi_wp2
          refine bodyPost_ret (results_none rfl _ _ _) rfl ?_
          exact ⟨⟨_, rfl⟩, .inr ⟨pre ++ [⟨k, m, hok⟩], ⟨_, HN3.out.symm⟩, hJx3⟩⟩
    · have hl : ¬ (k : Int) < (N : Int) := by omega
      have HN2 : Hid (pre = chunkL m N hm N 0) := by
        have := HN.out
        rw [chunkL_over _ _ _ _ _ hlt, List.append_nil] at this
        exact this.symm
      gi_wp2
      go_end0
      exact ⟨⟨_, rfl⟩, .inl (by rw [← HN2.out]; exact hJs)⟩

/-- The iterator over the parts. -/
theorem chunk_stops (n : Nat) (hn : 1 ≤ n) (Bs Bm n₀ b o N ca m : Nat) (S : Nat → Prop) (hm : 1 ≤ m) (hm2 : m ≤ 4611686018427387904) (hN : N ≤ 4611686018427387904) (hca : N ≤ ca) (hS : S Bm ∨ Bm < n₀) (hSs : S Bs ∨ Bs < n₀) (w : World)
    (hBs : w.cell? ⟨Bs, 0, none⟩ = some (.slice (some ⟨b, o, none⟩) N ca)) (hBm : w.cell? ⟨Bm, 0, none⟩ = some (.int .i64 (m : Int))) :
    SeqStopsK Fence.wide n Try.prog 95 #[.pointer (some ⟨Bs, 0, none⟩), .pointer (some ⟨Bm, 0, none⟩)] (encC b o) (Kp n₀ S) (fun ys => ys = chunkL m N hm N 0) (fun pre => pre <+: chunkL m N hm N 0) N w := fun l J Jx W hW hJ _ hY h0 => by
  have lt : ∀ {a : Addr} {v : Value}, w.cell? a = some v → a.block < w.heap.size := fun {a v} h => by
    by_cases hb : a.block < w.heap.size
    · exact hb
    · unfold World.cell? at h
      rw [Array.getElem?_eq_none (by omega)] at h
      simp at h
  exact chunk1_in n hn l Bs Bm n₀ b o N ca m S hm hm2 hN hca hS hSs J Jx hY W hJ ((hW.cell (p := ⟨Bs, 0, none⟩) (lt hBs)).trans hBs) ((hW.cell (p := ⟨Bm, 0, none⟩) (lt hBm)).trans hBm) h0

end Go.Proofs.Ythffbogejcbdiaa
