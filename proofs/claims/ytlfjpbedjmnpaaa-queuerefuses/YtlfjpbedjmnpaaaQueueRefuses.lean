/-
  Classes that are none, frames too long, depths that may not be: their errors are told, and nothing changes.
-/
import Derived.Test.YtlfjpbedjmnpaaaQuZ
import Derived.Test.YtlfjpbedjmnpaaaQuR
import Derived.Test.YtlfjpbedjmnpaaaOpenQ
import Derived.Test.YtlfjpbedjmnpaaaLow
import Derived.Deep.DeepCutAuto
namespace Go.Proofs.Ytlfjpbedjmnpaaa
open Go.ChangeShapes Go.WideShapes Go.ChangeAt Go.RowKit
set_option maxRecDepth 100000
namespace queueRefuses

theorem sum_set : ∀ (l : List Int) (m : Nat) (x y : Int), l[m]? = some y → (l.set m x).sum + y = l.sum + x
  | [], m, x, y, h => by simp at h
  | z :: r, 0, x, y, h => by
    simp at h
    subst h
    simp
    omega
  | z :: r, m + 1, x, y, h => by
    have := sum_set r m x y (by simpa using h)
    simp only [List.set_cons_succ, List.sum_cons]
    omega
theorem sum_zero (zs : List Int) : (lensP (newP zs)).sum = 0 := by
  induction zs with
  | nil => rfl
  | cons z r ih =>
    simp only [lensP, newP, List.map_cons, List.sum_cons] at ih ⊢
    rw [ih]
    rfl
theorem sum_le (l : List Int) (h : ∀ x ∈ l, 0 ≤ x) (k : Nat) : 0 ≤ (l.take k).sum ∧ (l.take k).sum ≤ l.sum := by
  induction l generalizing k with
  | nil => simp
  | cons z r ih =>
    have hz := h z (List.mem_cons_self ..)
    cases k with
    | zero =>
      have := ih (fun x hx => h x (List.mem_cons_of_mem _ hx)) 0
      simp only [List.take_zero, List.sum_nil, List.sum_cons] at this ⊢
      omega
    | succ k =>
      have := ih (fun x hx => h x (List.mem_cons_of_mem _ hx)) k
      simp only [List.take_succ_cons, List.sum_cons]
      omega

theorem put_err {w : World} {base : Nat} {q : Lq} {cl : Int} {b : List UInt8} {e : Ending} {w' : World} {n : Int} (h : PutL w base q cl b e w') (he : putE q.abs cl b = n) (hn : n ≠ 0) : e = .returned (.tuple #[.bool false, .int .i64 n]) ∧ ∃ q' : Lq, LqAt w' base q' ∧ q'.g = q.g ∧ q'.abs = q.abs ∧ GW w w' q.foot := by
  obtain ⟨h1, q', h2, h3, h4, h5, -⟩ := h
  refine ⟨?_, q', h2, h3, ?_, h5⟩
  · rw [h1]
    unfold putB
    rw [he, if_neg hn]
  · rw [h4]
    unfold putP
    rw [he, if_neg hn]

theorem new_room {zs : List Int} (hb : newB zs = true) {m : Nat} (hm : m < zs.length) (b : List UInt8) (hl : b.length ≤ 65535) : putE (newP zs) (m : Int) b = 0 ∧ putB (newP zs) (m : Int) b = true ∧ (lensP (putP (newP zs) (m : Int) b)).sum = 1 ∧ ∀ x ∈ lensP (putP (newP zs) (m : Int) b), 0 ≤ x := by
  have hlen : (newP zs).length = zs.length := by simp [newP]
  have h0 : putE (newP zs) (m : Int) b = 0 := by
    unfold putE
    rw [if_neg (by omega), if_neg (by omega)]
  have hk : (newP zs)[m]? = some ⟨zs[m].toNat, 0, []⟩ := by simp [newP, hm]
  have hg : (newP zs).getD m qc0 = ⟨zs[m].toNat, 0, []⟩ := by rw [List.getD_eq_getElem?_getD, hk]; rfl
  have hz : 1 ≤ zs[m] := by
    unfold newB at hb
    simp only [Bool.and_eq_true, decide_eq_true_eq, List.all_eq_true, depB] at hb
    exact (hb.2 _ (List.getElem_mem hm)).1
  have hr : (⟨zs[m].toNat, 0, []⟩ : Qc).room = true := by
    unfold Qc.room
    exact decide_eq_true (by show 0 < zs[m].toNat; omega)
  have hp : putP (newP zs) (m : Int) b = (newP zs).set m ⟨zs[m].toNat, 0, [b]⟩ := by
    unfold putP
    rw [if_pos h0, Int.toNat_natCast, hg]
    unfold Qc.put
    rw [if_pos hr]
    rfl
  refine ⟨h0, ?_, ?_, fun x hx => ?_⟩
  · unfold putB
    rw [if_pos h0, Int.toNat_natCast, hg, hr]
  · rw [hp]
    unfold lensP
    rw [List.map_set]
    have := sum_set (lensP (newP zs)) m 1 0 (by unfold lensP; rw [List.getElem?_map, hk]; rfl)
    rw [sum_zero] at this
    unfold lensP at this
    have e : ((([b] : List (List UInt8)).length : Nat) : Int) = 1 := rfl
    rw [e]
    omega
  · obtain ⟨c, _, rfl⟩ := List.mem_map.1 hx
    exact Int.natCast_nonneg _

theorem put_same {cs : List Qc} {cl n : Int} {b : List UInt8} (h : putE cs cl b = n) (hn : n ≠ 0) : putP cs cl b = cs := by
  unfold putP
  rw [h, if_neg hn]
theorem put_sameB {cs : List Qc} {cl n : Int} {b : List UInt8} (h : putE cs cl b = n) (hn : n ≠ 0) : putB cs cl b = false := by
  unfold putB
  rw [h, if_neg hn]

theorem step_makeL {P : Program} {ops : Array Oper} {o : Oper} {a : Act} {w : World} {K : Act → World → Prop} {Q : Exit → Act → World → Prop} {E : Prop}
    (hgd : o.guard = none) (l : Operand) (t : TypeId) (hop : o.op = Op.makeSlice t l l)
    (base : Nat) (e : TypeId) (i : TypeInfo) (z : Value) (size : Nat) (h1 : P.underlying t = some (.slice e)) (h2 : P.info? e = some i) (h3 : i.zero = some z) (h4 : i.size = size)
    (L : Int) (n : Nat) (hl : a.eval l = .int .i64 L) (hL : L = (n : Int)) (b2 : i.bytes * n ≤ 281474976710656) (b3 : n ≤ maxLen) (b4 : base ≤ w.heap.size)
    (hK : ∀ g w', w'.ownsRow base e size (.slice (some ⟨g, 0, none⟩) n n) n (madeCells z.cells (n * size)).toList → w.grownBy w' none → K (a.put o.dst (.slice (some ⟨g, 0, none⟩) n n)) w') :
    if Region.wanted o (yielded ops a.tmps) = true then Oper.wp P o a w K Q else E := by
  subst hL
  exact step_make hgd l t hop base e i z size h1 h2 h3 h4 n hl b2 b3 b4 hK

theorem made_bytes {w : World} {base g n : Nat} (h : w.ownsRow base 5 1 (.slice (some ⟨g, 0, none⟩) n n) n (List.replicate n (.int .u8 0))) : Cells w (some ⟨g, 0, none⟩) (List.replicate n 0) := by
  refine ⟨fun h => (by cases h), fun ad had i hi => ?_⟩
  obtain rfl := Option.some.inj had
  rw [List.length_replicate] at hi
  have := h.cellAt i (by omega)
  rw [Addr.add_lit, Nat.zero_add, this, List.getElem?_replicate, if_pos hi, List.getElem_replicate]
  rfl
theorem put_made {W wr : World} {g : Nat} {q : Lq} {cs : List Qc} {gF n : Nat} (h : AwQ W wr g q cs) (m : Int) (C : Cells wr (some ⟨gF, 0, none⟩) (List.replicate n 0)) :
    Calls Try.prog 15 #[.pointer (some ⟨g, 0, none⟩), .int .i64 m, .slice (some ⟨gF, 0, none⟩) n n] wr fun e w' => e = .returned (.tuple #[.bool (putB cs m (List.replicate n 0)), .int .i64 (putE cs m (List.replicate n 0))]) ∧ ∃ q', AwQ W w' g q' (putP cs m (List.replicate n 0)) := by
  have CP := lqput_any W.heap.size q m (some ⟨gF, 0, none⟩) n (List.replicate n 0) wr h.at' C (fun e => by cases e)
  rw [h.g, List.length_replicate] at CP
  refine CP.mono ?_
  rintro e w' ⟨rfl, q', L, hg, ha, G, F⟩
  rw [h.abs] at ha ⊢
  exact ⟨rfl, q', h.step L hg ha G⟩

theorem lnew_len (a : Option Addr) (ca n : Nat) (zs : List Int) (hn : zs.length = n) (w : World) (ha : CV w a (zs.map iv)) (hl : n ≤ 35184372088832) :
    Calls Try.prog 9 #[.slice a n ca] w (NewL w zs) := by
  subst hn
  exact lnew_any a ca zs w ha hl

/-- The class that is asked for. -/
def atN (x : Int) (n : Nat) : Nat := lowV x % n
theorem atN_lt (x : Int) {n : Nat} (h : 1 ≤ n) : atN x n < n := Nat.mod_lt _ h
theorem atN_cast (x : Int) (n : Nat) : (lowV x : Int) % (n : Int) = (atN x n : Int) := by unfold atN; omega

set_option maxHeartbeats 8000000 in
theorem walk (a0 : Option Addr) (cap0 : Nat) (zs : List Int) (at0 by0 : Int) (W : World) (hc0 : CV W a0 (zs.map (Value.int .i64))) (hn0 : a0 = none → cap0 = 0) (hl0 : zs.length * 8 ≤ 140737488351232) :
    Calls Try.prog 6 #[.slice a0 zs.length cap0, .int .i64 at0, .int .i64 by0] W fun e w' => e = .returned (.bool true) ∧ W.grownBy w' none := by
  have H0 : Hid (CV W a0 (zs.map iv) ∧ (a0 = none → cap0 = 0) ∧ zs.length * 8 ≤ 140737488351232) := ⟨hc0, hn0, hl0⟩
  have CC := zcopy_any a0 cap0 zs W hc0 hn0 (by omega)
  clear hc0 hn0
  go_enter Try.func6, Try.ntmps6
  go_wp2_with fail
  refine CC.mono ?_
  rintro e w1 ⟨vc, rfl, OC, K1⟩
  clear CC
  obtain ⟨ac, cc, hvc, C1, -⟩ := CV.ofRow OC
  subst hvc
  have CN := lnew_any ac cc zs w1 C1 (by omega)
  have HK1 : Hid (W.grownBy w1 none) := K1
  clear OC C1 K1
  go_wp2_with fail
  refine CN.mono ?_
  rintro e w2 ⟨K2, hN⟩
  clear CN
  rcases hN with ⟨hbd, rfl⟩ | ⟨hgood, q, rfl, L, hqa⟩
  · have HK2 : Hid (W.grownBy w2 none) := grown_trans HK1.out K2
    clear hbd K2 HK1
    go_wp2_with fail
    refine (awake21_any w2).mono ?_
    rintro e w3 ⟨rfl, K3⟩
    have HK3 : Hid (W.grownBy w3 none) := grown_trans HK2.out K3
    clear K3 HK2
    go_wp2
    go_ret
    exact ⟨rfl, HK3.out⟩
  · obtain ⟨g, hg⟩ : ∃ g, q.g = g := ⟨_, rfl⟩
    have HA : Hid (AwQ W w2 g q (newP zs)) := ⟨L.mono HK1.out.size, hg, hqa, grown_trans HK1.out K2⟩
    have hN17 : 1 ≤ zs.length ∧ zs.length ≤ 17 := by
      unfold newB at hgood
      simp only [Bool.and_eq_true, decide_eq_true_eq] at hgood
      exact hgood.1
    have HG : Hid (newB zs = true) := hgood
    rw [hg]
    clear L K2 hqa hg HK1 hgood
    obtain ⟨hN1, hN2⟩ := hN17
    have hLb := lowV_lt by0
    -- a class past the last one
    have hq1 : (lowV by0 : Int) % 1000 = ((lowV by0 % 1000 : Nat) : Int) := by omega
    obtain ⟨L9, hL9⟩ : ∃ L9, lowV by0 % 1000 = L9 := ⟨_, rfl⟩
    have hL9b : L9 < 1000 := by rw [← hL9]; exact Nat.mod_lt _ (by decide)
    rw [hL9] at hq1
    go_wp2_with fail
    refine (low_any by0 w2).mono ?_
    rintro e w3 ⟨rfl, rfl⟩
    have hz1 : ((lowV by0 : Int) % 1000) = (L9 : Int) := hq1
    have he1 : putE (newP zs) ((zs.length : Int) + (L9 : Int)) [1] = 211 := by
      unfold putE
      rw [if_pos (.inr (by simp [newP]; omega))]
    have he2 : putE (newP zs) (-1 - (L9 : Int)) [1] = 211 := by
      unfold putE
      rw [if_pos (.inl (by omega))]
    have C1 : Calls Try.prog 15 #[.pointer (some ⟨g, 0, none⟩), .int .i64 ((zs.length : Int) + (L9 : Int)), .slice (some ⟨w2.heap.size, 0, none⟩) 1 1] (w2.alloc (.cells #[.int .u8 1] 5)) fun e w' => e = .returned (.tuple #[.bool false, .int .i64 211]) ∧ ∃ q', AwQ W w' g q' (newP zs) := by
      have := aw_put HA.out ((zs.length : Int) + (L9 : Int)) [1]
      rw [put_same he1 (by decide), he1, put_sameB he1 (by decide)] at this
      exact this
    clear HA he1
    go_wp2_with fail
    refine C1.mono ?_
    rintro e w3 ⟨rfl, q1, A1⟩
    have HA1 : Hid (AwQ W w3 g q1 (newP zs)) := A1
    have C2 : Calls Try.prog 15 #[.pointer (some ⟨g, 0, none⟩), .int .i64 (-1 - (L9 : Int)), .slice (some ⟨w3.heap.size, 0, none⟩) 1 1] (w3.alloc (.cells #[.int .u8 1] 5)) fun e w' => e = .returned (.tuple #[.bool false, .int .i64 211]) ∧ ∃ q', AwQ W w' g q' (newP zs) := by
      have := aw_put HA1.out (-1 - (L9 : Int)) [1]
      rw [put_same he2 (by decide), he2, put_sameB he2 (by decide)] at this
      exact this
    clear C1 A1 HA1 he2
    go_wp2_with fail
    refine (low_any by0 w3).mono ?_
    rintro e w4 ⟨rfl, rfl⟩
    go_wp2_with fail
    refine C2.mono ?_
    rintro e w4 ⟨rfl, q2, A2⟩
    have HA2 : Hid (AwQ W w4 g q2 (newP zs)) := A2
    clear C2 A2 hq1 hz1
    obtain ⟨m, hm⟩ : ∃ m, atN at0 zs.length = m := ⟨_, rfl⟩
    have hmn : m < zs.length := by rw [← hm]; exact atN_lt at0 hN1
    have hma : (lowV at0 : Int) % (zs.length : Int) = (m : Int) := by rw [atN_cast, hm]
    have hnz : ((zs.length : Int) == 0) = false := by rw [beq_eq_false_iff_ne]; omega
    have HM : Hid (m < zs.length) := hmn
    have hzne : ¬ zs = [] := by intro e; subst e; simp at hN1
    have hmt : (lowV at0 : Int).tmod (zs.length : Int) = (m : Int) := by rw [← hma]; exact Int.tmod_eq_emod_of_nonneg (Int.natCast_nonneg _)
    clear hm
    have hl65536 : putE (newP zs) (m : Int) (List.replicate 65536 0) = 212 := by
      unfold putE
      rw [if_neg (by simp [newP]; omega), if_pos (by rw [List.length_replicate]; omega)]
    obtain ⟨i0, hi, hz0, hz2, hz3⟩ := info_parts info5
    go_upto_region 7 with fail
    go_cut [14, 15] from 70 to 80 (fun t u wx => t = .bool false ∧ u = .int .i64 212 ∧ ∃ q3, AwQ W wx g q3 (newP zs))
    case first =>
      refine wp_region_held_drew (S := fun _ => True) (by kernel_rfl) (trivial) (fun hHeld => ?_)
      refine wpAnyH_take (i := 0) (v := .pointer (some ⟨g, 0, none⟩)) rfl (by kernel_rfl) (by kernel_rfl) (by kernel_rfl) (fun _ _ _ h => h) (Or.inl ⟨by rfl, fun W hW => ?_⟩) hHeld ?_
      · clear hW
        go_simp
      try simp only [Act.put, List.getElem_toArray, List.getElem_cons_zero, List.setIfInBounds_toArray, List.set_cons_zero, List.set_cons_succ]
      refine wpAnyH_take (i := 1) (v := .int .i64 at0) rfl (by kernel_rfl) (by kernel_rfl) (by kernel_rfl) (fun _ _ _ h => h) (Or.inl ⟨by rfl, fun W hW => ?_⟩) hHeld ?_
      · clear hW
        go_simp
      try simp only [Act.put, List.getElem_toArray, List.getElem_cons_zero, List.getElem_cons_succ, List.setIfInBounds_toArray, List.set_cons_zero, List.set_cons_succ]
      refine wpAnyH_take (i := 3) (v := .slice a0 zs.length cap0) rfl (by kernel_rfl) (by kernel_rfl) (by kernel_rfl) (fun _ _ _ h => h) (Or.inl ⟨by rfl, fun W hW => ?_⟩) hHeld ?_
      · clear hW
        go_simp
      try simp only [Act.put, List.getElem_toArray, List.getElem_cons_zero, List.getElem_cons_succ, List.setIfInBounds_toArray, List.set_cons_zero, List.set_cons_succ]
      refine wpAnyH_take (i := 4) (v := .int .i64 (zs.length : Int)) rfl (by kernel_rfl) (by kernel_rfl) (by kernel_rfl) (fun _ _ _ h => h) (Or.inl ⟨by rfl, fun W hW => ?_⟩) hHeld ?_
      · clear hW
        go_simp
      try simp only [Act.put, List.getElem_toArray, List.getElem_cons_zero, List.getElem_cons_succ, List.setIfInBounds_toArray, List.set_cons_zero, List.set_cons_succ]
      have G : w4.grownBy w4.drew none := ⟨rfl, rfl, rfl, Nat.le_refl _, fun _ _ _ => rfl⟩
      generalize w4.drew = wc at *
      refine wpAnyH_ready (rs := [2, 6]) (by kernel_rfl) (by simp) (AllReadyH.cons rfl (fun K hK => ?_) (AllReadyH.cons rfl (fun K hK => ?_) AllReadyH.nil))
      · go_simp
        refine (low_any at0 _).mono ?_
        rintro e wl ⟨rfl, rfl⟩
        go_wp2_with fail
        refine hK.out _ _ trivial (fun hHeld => ?_)
        clear hK K hHeld
        try simp only [Act.put, List.getElem_toArray, List.getElem_cons_zero, List.getElem_cons_succ, List.setIfInBounds_toArray, List.set_cons_zero, List.set_cons_succ]
        refine wpAnyH_take (i := 5) (v := .int .i64 (m : Int)) rfl (by kernel_rfl) (by kernel_rfl) (by kernel_rfl) (fun _ _ _ h => h) (Or.inl ⟨by rfl, fun W hW => ?_⟩) hHeld ?_
        · clear hW
          go_simp
          all_goals rw [if_neg hzne, hmt]
        try simp only [Act.put, List.getElem_toArray, List.getElem_cons_zero, List.getElem_cons_succ, List.setIfInBounds_toArray, List.set_cons_zero, List.set_cons_succ]
        refine wpAnyH_ready (rs := [6]) (by kernel_rfl) (by simp) (AllReadyH.cons rfl (fun K hK => ?_) AllReadyH.nil)
        refine step_makeL (by rfl) (.const (.int .i64 65536)) 35 (by rfl) W.heap.size 5 i0 _ 1 Try.underlying35 hi hz0 hz2 65536 65536 (by rfl) rfl (by rw [hz3]; omega) (by unfold maxLen; omega) (Nat.le_trans (HA2.out.gr.size) G.size) ?_
        intro gF wn On Kn
        rw [made1 _ rfl] at On
        replace G := grown_trans G Kn
        refine hK.out _ _ trivial (fun hHeld => ?_)
        clear hK K hHeld Kn
        try simp only [Act.put, List.getElem_toArray, List.getElem_cons_zero, List.getElem_cons_succ, List.setIfInBounds_toArray, List.set_cons_zero, List.set_cons_succ]
        have A := put_made (HA2.out.kept G) (m : Int) (made_bytes On)
        rw [put_same hl65536 (by decide), hl65536, put_sameB hl65536 (by decide)] at A
        refine wpAnyH_ready (rs := [7]) (by kernel_rfl) (by simp) (AllReadyH.cons rfl (fun K hK => ?_) AllReadyH.nil)
        go_simp
        refine A.mono ?_
        rintro e wz ⟨rfl, q3, AZ⟩
        go_wp2_with fail
        refine hK.out _ _ trivial (fun hHeld => ?_)
        clear hK K hHeld A On G
        try simp only [Act.put, List.getElem_toArray, List.getElem_cons_zero, List.getElem_cons_succ, List.setIfInBounds_toArray, List.set_cons_zero, List.set_cons_succ]
        refine wpAnyH_take (i := 8) (v := .tuple #[.bool false, .int .i64 212]) rfl (by kernel_rfl) (by kernel_rfl) (by kernel_rfl) (fun _ _ _ h => h) (Or.inl ⟨by rfl, fun W hW => ?_⟩) hHeld ?_
        · clear hW
          go_simp
        try simp only [Act.put, List.getElem_toArray, List.getElem_cons_zero, List.getElem_cons_succ, List.setIfInBounds_toArray, List.set_cons_zero, List.set_cons_succ]
        refine wpAnyH_take (i := 9) (v := .bool false) rfl (by kernel_rfl) (by kernel_rfl) (by kernel_rfl) (fun _ _ _ h => h) (Or.inl ⟨by rfl, fun W hW => ?_⟩) hHeld ?_
        · clear hW
          go_simp
        try simp only [Act.put, List.getElem_toArray, List.getElem_cons_zero, List.getElem_cons_succ, List.setIfInBounds_toArray, List.set_cons_zero, List.set_cons_succ]
        refine wpAnyH_take (i := 10) (v := .int .i64 212) rfl (by kernel_rfl) (by kernel_rfl) (by kernel_rfl) (fun _ _ _ h => h) (Or.inl ⟨by rfl, fun W hW => ?_⟩) hHeld ?_
        · clear hW
          go_simp
        try simp only [Act.put, List.getElem_toArray, List.getElem_cons_zero, List.getElem_cons_succ, List.setIfInBounds_toArray, List.set_cons_zero, List.set_cons_succ]
        refine wpAnyH_take (i := 11) (v := .bool false) rfl (by kernel_rfl) (by kernel_rfl) (by kernel_rfl) (fun _ _ _ h => h) (Or.inl ⟨by rfl, fun W hW => ?_⟩) hHeld ?_
        · clear hW
          go_simp
        try simp only [Act.put, List.getElem_toArray, List.getElem_cons_zero, List.getElem_cons_succ, List.setIfInBounds_toArray, List.set_cons_zero, List.set_cons_succ]
        refine wpAnyH_take (i := 12) (v := .int .i64 212) rfl (by kernel_rfl) (by kernel_rfl) (by kernel_rfl) (fun _ _ _ h => h) (Or.inl ⟨by rfl, fun W hW => ?_⟩) hHeld ?_
        · clear hW
          go_simp
        try simp only [Act.put, List.getElem_toArray, List.getElem_cons_zero, List.getElem_cons_succ, List.setIfInBounds_toArray, List.set_cons_zero, List.set_cons_succ]
        refine wpAnyH_done (by kernel_rfl) ?_ _
        have HZ : Hid (AwQ W wz g q3 (newP zs)) := AZ
        clear AZ
        go_wp2
        go_meet
        exact ⟨rfl, rfl, _, HZ.out⟩
      · refine step_makeL (by rfl) (.const (.int .i64 65536)) 35 (by rfl) W.heap.size 5 i0 _ 1 Try.underlying35 hi hz0 hz2 65536 65536 (by rfl) rfl (by rw [hz3]; omega) (by unfold maxLen; omega) (Nat.le_trans (HA2.out.gr.size) G.size) ?_
        intro gF wn On Kn
        rw [made1 _ rfl] at On
        replace G := grown_trans G Kn
        refine hK.out _ _ trivial (fun hHeld => ?_)
        clear hK K hHeld Kn
        try simp only [Act.put, List.getElem_toArray, List.getElem_cons_zero, List.getElem_cons_succ, List.setIfInBounds_toArray, List.set_cons_zero, List.set_cons_succ]
        refine wpAnyH_ready (rs := [2]) (by kernel_rfl) (by simp) (AllReadyH.cons rfl (fun K hK => ?_) AllReadyH.nil)
        go_simp
        refine (low_any at0 _).mono ?_
        rintro e wl ⟨rfl, rfl⟩
        go_wp2_with fail
        refine hK.out _ _ trivial (fun hHeld => ?_)
        clear hK K hHeld
        try simp only [Act.put, List.getElem_toArray, List.getElem_cons_zero, List.getElem_cons_succ, List.setIfInBounds_toArray, List.set_cons_zero, List.set_cons_succ]
        refine wpAnyH_take (i := 5) (v := .int .i64 (m : Int)) rfl (by kernel_rfl) (by kernel_rfl) (by kernel_rfl) (fun _ _ _ h => h) (Or.inl ⟨by rfl, fun W hW => ?_⟩) hHeld ?_
        · clear hW
          go_simp
          all_goals rw [if_neg hzne, hmt]
        try simp only [Act.put, List.getElem_toArray, List.getElem_cons_zero, List.getElem_cons_succ, List.setIfInBounds_toArray, List.set_cons_zero, List.set_cons_succ]
        have A := put_made (HA2.out.kept G) (m : Int) (made_bytes On)
        rw [put_same hl65536 (by decide), hl65536, put_sameB hl65536 (by decide)] at A
        refine wpAnyH_ready (rs := [7]) (by kernel_rfl) (by simp) (AllReadyH.cons rfl (fun K hK => ?_) AllReadyH.nil)
        go_simp
        refine A.mono ?_
        rintro e wz ⟨rfl, q3, AZ⟩
        go_wp2_with fail
        refine hK.out _ _ trivial (fun hHeld => ?_)
        clear hK K hHeld A On G
        try simp only [Act.put, List.getElem_toArray, List.getElem_cons_zero, List.getElem_cons_succ, List.setIfInBounds_toArray, List.set_cons_zero, List.set_cons_succ]
        refine wpAnyH_take (i := 8) (v := .tuple #[.bool false, .int .i64 212]) rfl (by kernel_rfl) (by kernel_rfl) (by kernel_rfl) (fun _ _ _ h => h) (Or.inl ⟨by rfl, fun W hW => ?_⟩) hHeld ?_
        · clear hW
          go_simp
        try simp only [Act.put, List.getElem_toArray, List.getElem_cons_zero, List.getElem_cons_succ, List.setIfInBounds_toArray, List.set_cons_zero, List.set_cons_succ]
        refine wpAnyH_take (i := 9) (v := .bool false) rfl (by kernel_rfl) (by kernel_rfl) (by kernel_rfl) (fun _ _ _ h => h) (Or.inl ⟨by rfl, fun W hW => ?_⟩) hHeld ?_
        · clear hW
          go_simp
        try simp only [Act.put, List.getElem_toArray, List.getElem_cons_zero, List.getElem_cons_succ, List.setIfInBounds_toArray, List.set_cons_zero, List.set_cons_succ]
        refine wpAnyH_take (i := 10) (v := .int .i64 212) rfl (by kernel_rfl) (by kernel_rfl) (by kernel_rfl) (fun _ _ _ h => h) (Or.inl ⟨by rfl, fun W hW => ?_⟩) hHeld ?_
        · clear hW
          go_simp
        try simp only [Act.put, List.getElem_toArray, List.getElem_cons_zero, List.getElem_cons_succ, List.setIfInBounds_toArray, List.set_cons_zero, List.set_cons_succ]
        refine wpAnyH_take (i := 11) (v := .bool false) rfl (by kernel_rfl) (by kernel_rfl) (by kernel_rfl) (fun _ _ _ h => h) (Or.inl ⟨by rfl, fun W hW => ?_⟩) hHeld ?_
        · clear hW
          go_simp
        try simp only [Act.put, List.getElem_toArray, List.getElem_cons_zero, List.getElem_cons_succ, List.setIfInBounds_toArray, List.set_cons_zero, List.set_cons_succ]
        refine wpAnyH_take (i := 12) (v := .int .i64 212) rfl (by kernel_rfl) (by kernel_rfl) (by kernel_rfl) (fun _ _ _ h => h) (Or.inl ⟨by rfl, fun W hW => ?_⟩) hHeld ?_
        · clear hW
          go_simp
        try simp only [Act.put, List.getElem_toArray, List.getElem_cons_zero, List.getElem_cons_succ, List.setIfInBounds_toArray, List.set_cons_zero, List.set_cons_succ]
        refine wpAnyH_done (by kernel_rfl) ?_ _
        have HZ : Hid (AwQ W wz g q3 (newP zs)) := AZ
        clear AZ
        go_wp2
        go_meet
        exact ⟨rfl, rfl, _, HZ.out⟩
    case rest =>
    obtain ⟨rfl, rfl, q3, A3⟩ := hcut
    generalize hwc : wc = w5 at *
    clear hwc hl65536
    have HA3 : Hid (AwQ W w5 g q3 (newP zs)) := A3
    clear A3 HA2
    obtain ⟨hr2, hr1, hs1, hs2⟩ := new_room HG.out hmn (List.replicate 65535 0) (by rw [List.length_replicate]; omega)
    obtain ⟨cs1, hcs1⟩ : ∃ cs1, putP (newP zs) (m : Int) (List.replicate 65535 0) = cs1 := ⟨_, rfl⟩
    rw [hcs1] at hs1 hs2
    have HS : Hid ((lensP cs1).sum = 1 ∧ ∀ x ∈ lensP cs1, 0 ≤ x) := ⟨hs1, hs2⟩
    clear hs1 hs2
    go_upto_region 8 with fail
    go_cut [16, 17] from 81 to 91 (fun t u wx => t = .bool true ∧ u = .int .i64 0 ∧ ∃ q4, AwQ W wx g q4 cs1)
    case first =>
      refine wp_region_held_drew (S := fun _ => True) (by kernel_rfl) (trivial) (fun hHeld => ?_)
      refine wpAnyH_take (i := 0) (v := .pointer (some ⟨g, 0, none⟩)) rfl (by kernel_rfl) (by kernel_rfl) (by kernel_rfl) (fun _ _ _ h => h) (Or.inl ⟨by rfl, fun W hW => ?_⟩) hHeld ?_
      · clear hW
        go_simp
      try simp only [Act.put, List.getElem_toArray, List.getElem_cons_zero, List.setIfInBounds_toArray, List.set_cons_zero, List.set_cons_succ]
      refine wpAnyH_take (i := 1) (v := .int .i64 at0) rfl (by kernel_rfl) (by kernel_rfl) (by kernel_rfl) (fun _ _ _ h => h) (Or.inl ⟨by rfl, fun W hW => ?_⟩) hHeld ?_
      · clear hW
        go_simp
      try simp only [Act.put, List.getElem_toArray, List.getElem_cons_zero, List.getElem_cons_succ, List.setIfInBounds_toArray, List.set_cons_zero, List.set_cons_succ]
      refine wpAnyH_take (i := 3) (v := .slice a0 zs.length cap0) rfl (by kernel_rfl) (by kernel_rfl) (by kernel_rfl) (fun _ _ _ h => h) (Or.inl ⟨by rfl, fun W hW => ?_⟩) hHeld ?_
      · clear hW
        go_simp
      try simp only [Act.put, List.getElem_toArray, List.getElem_cons_zero, List.getElem_cons_succ, List.setIfInBounds_toArray, List.set_cons_zero, List.set_cons_succ]
      refine wpAnyH_take (i := 4) (v := .int .i64 (zs.length : Int)) rfl (by kernel_rfl) (by kernel_rfl) (by kernel_rfl) (fun _ _ _ h => h) (Or.inl ⟨by rfl, fun W hW => ?_⟩) hHeld ?_
      · clear hW
        go_simp
      try simp only [Act.put, List.getElem_toArray, List.getElem_cons_zero, List.getElem_cons_succ, List.setIfInBounds_toArray, List.set_cons_zero, List.set_cons_succ]
      have G : w5.grownBy w5.drew none := ⟨rfl, rfl, rfl, Nat.le_refl _, fun _ _ _ => rfl⟩
      generalize w5.drew = wc at *
      refine wpAnyH_ready (rs := [2, 6]) (by kernel_rfl) (by simp) (AllReadyH.cons rfl (fun K hK => ?_) (AllReadyH.cons rfl (fun K hK => ?_) AllReadyH.nil))
      · go_simp
        refine (low_any at0 _).mono ?_
        rintro e wl ⟨rfl, rfl⟩
        go_wp2_with fail
        refine hK.out _ _ trivial (fun hHeld => ?_)
        clear hK K hHeld
        try simp only [Act.put, List.getElem_toArray, List.getElem_cons_zero, List.getElem_cons_succ, List.setIfInBounds_toArray, List.set_cons_zero, List.set_cons_succ]
        refine wpAnyH_take (i := 5) (v := .int .i64 (m : Int)) rfl (by kernel_rfl) (by kernel_rfl) (by kernel_rfl) (fun _ _ _ h => h) (Or.inl ⟨by rfl, fun W hW => ?_⟩) hHeld ?_
        · clear hW
          go_simp
          all_goals rw [if_neg hzne, hmt]
        try simp only [Act.put, List.getElem_toArray, List.getElem_cons_zero, List.getElem_cons_succ, List.setIfInBounds_toArray, List.set_cons_zero, List.set_cons_succ]
        refine wpAnyH_ready (rs := [6]) (by kernel_rfl) (by simp) (AllReadyH.cons rfl (fun K hK => ?_) AllReadyH.nil)
        refine step_makeL (by rfl) (.const (.int .i64 65535)) 35 (by rfl) W.heap.size 5 i0 _ 1 Try.underlying35 hi hz0 hz2 65535 65535 (by rfl) rfl (by rw [hz3]; omega) (by unfold maxLen; omega) (Nat.le_trans (HA3.out.gr.size) G.size) ?_
        intro gF wn On Kn
        rw [made1 _ rfl] at On
        replace G := grown_trans G Kn
        refine hK.out _ _ trivial (fun hHeld => ?_)
        clear hK K hHeld Kn
        try simp only [Act.put, List.getElem_toArray, List.getElem_cons_zero, List.getElem_cons_succ, List.setIfInBounds_toArray, List.set_cons_zero, List.set_cons_succ]
        have A := put_made (HA3.out.kept G) (m : Int) (made_bytes On)
        rw [hr1, hr2, hcs1] at A
        refine wpAnyH_ready (rs := [7]) (by kernel_rfl) (by simp) (AllReadyH.cons rfl (fun K hK => ?_) AllReadyH.nil)
        go_simp
        refine A.mono ?_
        rintro e wz ⟨rfl, q4, AZ⟩
        go_wp2_with fail
        refine hK.out _ _ trivial (fun hHeld => ?_)
        clear hK K hHeld A On G
        try simp only [Act.put, List.getElem_toArray, List.getElem_cons_zero, List.getElem_cons_succ, List.setIfInBounds_toArray, List.set_cons_zero, List.set_cons_succ]
        refine wpAnyH_take (i := 8) (v := .tuple #[.bool true, .int .i64 0]) rfl (by kernel_rfl) (by kernel_rfl) (by kernel_rfl) (fun _ _ _ h => h) (Or.inl ⟨by rfl, fun W hW => ?_⟩) hHeld ?_
        · clear hW
          go_simp
        try simp only [Act.put, List.getElem_toArray, List.getElem_cons_zero, List.getElem_cons_succ, List.setIfInBounds_toArray, List.set_cons_zero, List.set_cons_succ]
        refine wpAnyH_take (i := 9) (v := .bool true) rfl (by kernel_rfl) (by kernel_rfl) (by kernel_rfl) (fun _ _ _ h => h) (Or.inl ⟨by rfl, fun W hW => ?_⟩) hHeld ?_
        · clear hW
          go_simp
        try simp only [Act.put, List.getElem_toArray, List.getElem_cons_zero, List.getElem_cons_succ, List.setIfInBounds_toArray, List.set_cons_zero, List.set_cons_succ]
        refine wpAnyH_take (i := 10) (v := .int .i64 0) rfl (by kernel_rfl) (by kernel_rfl) (by kernel_rfl) (fun _ _ _ h => h) (Or.inl ⟨by rfl, fun W hW => ?_⟩) hHeld ?_
        · clear hW
          go_simp
        try simp only [Act.put, List.getElem_toArray, List.getElem_cons_zero, List.getElem_cons_succ, List.setIfInBounds_toArray, List.set_cons_zero, List.set_cons_succ]
        refine wpAnyH_take (i := 11) (v := .bool true) rfl (by kernel_rfl) (by kernel_rfl) (by kernel_rfl) (fun _ _ _ h => h) (Or.inl ⟨by rfl, fun W hW => ?_⟩) hHeld ?_
        · clear hW
          go_simp
        try simp only [Act.put, List.getElem_toArray, List.getElem_cons_zero, List.getElem_cons_succ, List.setIfInBounds_toArray, List.set_cons_zero, List.set_cons_succ]
        refine wpAnyH_take (i := 12) (v := .int .i64 0) rfl (by kernel_rfl) (by kernel_rfl) (by kernel_rfl) (fun _ _ _ h => h) (Or.inl ⟨by rfl, fun W hW => ?_⟩) hHeld ?_
        · clear hW
          go_simp
        try simp only [Act.put, List.getElem_toArray, List.getElem_cons_zero, List.getElem_cons_succ, List.setIfInBounds_toArray, List.set_cons_zero, List.set_cons_succ]
        refine wpAnyH_done (by kernel_rfl) ?_ _
        have HZ : Hid (AwQ W wz g q4 cs1) := AZ
        clear AZ
        go_wp2
        go_meet
        exact ⟨rfl, rfl, _, HZ.out⟩
      · refine step_makeL (by rfl) (.const (.int .i64 65535)) 35 (by rfl) W.heap.size 5 i0 _ 1 Try.underlying35 hi hz0 hz2 65535 65535 (by rfl) rfl (by rw [hz3]; omega) (by unfold maxLen; omega) (Nat.le_trans (HA3.out.gr.size) G.size) ?_
        intro gF wn On Kn
        rw [made1 _ rfl] at On
        replace G := grown_trans G Kn
        refine hK.out _ _ trivial (fun hHeld => ?_)
        clear hK K hHeld Kn
        try simp only [Act.put, List.getElem_toArray, List.getElem_cons_zero, List.getElem_cons_succ, List.setIfInBounds_toArray, List.set_cons_zero, List.set_cons_succ]
        refine wpAnyH_ready (rs := [2]) (by kernel_rfl) (by simp) (AllReadyH.cons rfl (fun K hK => ?_) AllReadyH.nil)
        go_simp
        refine (low_any at0 _).mono ?_
        rintro e wl ⟨rfl, rfl⟩
        go_wp2_with fail
        refine hK.out _ _ trivial (fun hHeld => ?_)
        clear hK K hHeld
        try simp only [Act.put, List.getElem_toArray, List.getElem_cons_zero, List.getElem_cons_succ, List.setIfInBounds_toArray, List.set_cons_zero, List.set_cons_succ]
        refine wpAnyH_take (i := 5) (v := .int .i64 (m : Int)) rfl (by kernel_rfl) (by kernel_rfl) (by kernel_rfl) (fun _ _ _ h => h) (Or.inl ⟨by rfl, fun W hW => ?_⟩) hHeld ?_
        · clear hW
          go_simp
          all_goals rw [if_neg hzne, hmt]
        try simp only [Act.put, List.getElem_toArray, List.getElem_cons_zero, List.getElem_cons_succ, List.setIfInBounds_toArray, List.set_cons_zero, List.set_cons_succ]
        have A := put_made (HA3.out.kept G) (m : Int) (made_bytes On)
        rw [hr1, hr2, hcs1] at A
        refine wpAnyH_ready (rs := [7]) (by kernel_rfl) (by simp) (AllReadyH.cons rfl (fun K hK => ?_) AllReadyH.nil)
        go_simp
        refine A.mono ?_
        rintro e wz ⟨rfl, q4, AZ⟩
        go_wp2_with fail
        refine hK.out _ _ trivial (fun hHeld => ?_)
        clear hK K hHeld A On G
        try simp only [Act.put, List.getElem_toArray, List.getElem_cons_zero, List.getElem_cons_succ, List.setIfInBounds_toArray, List.set_cons_zero, List.set_cons_succ]
        refine wpAnyH_take (i := 8) (v := .tuple #[.bool true, .int .i64 0]) rfl (by kernel_rfl) (by kernel_rfl) (by kernel_rfl) (fun _ _ _ h => h) (Or.inl ⟨by rfl, fun W hW => ?_⟩) hHeld ?_
        · clear hW
          go_simp
        try simp only [Act.put, List.getElem_toArray, List.getElem_cons_zero, List.getElem_cons_succ, List.setIfInBounds_toArray, List.set_cons_zero, List.set_cons_succ]
        refine wpAnyH_take (i := 9) (v := .bool true) rfl (by kernel_rfl) (by kernel_rfl) (by kernel_rfl) (fun _ _ _ h => h) (Or.inl ⟨by rfl, fun W hW => ?_⟩) hHeld ?_
        · clear hW
          go_simp
        try simp only [Act.put, List.getElem_toArray, List.getElem_cons_zero, List.getElem_cons_succ, List.setIfInBounds_toArray, List.set_cons_zero, List.set_cons_succ]
        refine wpAnyH_take (i := 10) (v := .int .i64 0) rfl (by kernel_rfl) (by kernel_rfl) (by kernel_rfl) (fun _ _ _ h => h) (Or.inl ⟨by rfl, fun W hW => ?_⟩) hHeld ?_
        · clear hW
          go_simp
        try simp only [Act.put, List.getElem_toArray, List.getElem_cons_zero, List.getElem_cons_succ, List.setIfInBounds_toArray, List.set_cons_zero, List.set_cons_succ]
        refine wpAnyH_take (i := 11) (v := .bool true) rfl (by kernel_rfl) (by kernel_rfl) (by kernel_rfl) (fun _ _ _ h => h) (Or.inl ⟨by rfl, fun W hW => ?_⟩) hHeld ?_
        · clear hW
          go_simp
        try simp only [Act.put, List.getElem_toArray, List.getElem_cons_zero, List.getElem_cons_succ, List.setIfInBounds_toArray, List.set_cons_zero, List.set_cons_succ]
        refine wpAnyH_take (i := 12) (v := .int .i64 0) rfl (by kernel_rfl) (by kernel_rfl) (by kernel_rfl) (fun _ _ _ h => h) (Or.inl ⟨by rfl, fun W hW => ?_⟩) hHeld ?_
        · clear hW
          go_simp
        try simp only [Act.put, List.getElem_toArray, List.getElem_cons_zero, List.getElem_cons_succ, List.setIfInBounds_toArray, List.set_cons_zero, List.set_cons_succ]
        refine wpAnyH_done (by kernel_rfl) ?_ _
        have HZ : Hid (AwQ W wz g q4 cs1) := AZ
        clear AZ
        go_wp2
        go_meet
        exact ⟨rfl, rfl, _, HZ.out⟩
    case rest =>
    obtain ⟨rfl, rfl, q4, A4⟩ := hcut
    generalize hwc : wc = w6 at *
    clear hwc hr1 hr2 hcs1
    have CB := zcopy_any a0 cap0 zs w6 (H0.out.1.keptNone A4.gr) H0.out.2.1 (by omega)
    have HA4 : Hid (AwQ W w6 g q4 cs1) := A4
    clear A4 HA3 hi hz0 hz2 hz3 i0
    go_wp2_with fail
    refine CB.mono ?_
    rintro e w7 ⟨vb, rfl, OB, K7⟩
    clear CB
    have A7 := HA4.out.kept K7
    obtain ⟨gb, cb, hvb, hgb, hcb, hb1, hb2⟩ := owns_head OB (by omega)
    subst hvb
    have HA7 : Hid (AwQ W w7 g q4 cs1 ∧ w7.ownsRow W.heap.size 3 1 (.slice (some ⟨gb, 0, none⟩) zs.length cb) zs.length (zs.map iv) ∧ W.heap.size ≤ gb ∧ ∀ x, q4.foot x → x ≠ gb) := ⟨A7, owns_mono OB HA4.out.gr.size, Nat.le_trans HA4.out.gr.size hb1, fun x hx e => by have := (HA4.out.at'.lt x hx).2; omega⟩
    clear A7 OB HA4 K7 hgb hcb hb1 hb2
    have hlow9 : (lowV by0 : Int).tmod 9 = ((lowV by0 % 9 : Nat) : Int) := by rw [Int.tmod_eq_emod_of_nonneg (Int.natCast_nonneg _)]; omega
    obtain ⟨M9, hM9⟩ : ∃ M9, lowV by0 % 9 = M9 := ⟨_, rfl⟩
    have hM9b : M9 < 9 := by rw [← hM9]; exact Nat.mod_lt _ (by decide)
    rw [hM9] at hlow9
    have hwr1 : IntKind.i64.wrap (1025 + (M9 : Int)) = 1025 + (M9 : Int) := by rw [IntKind.wrap_i64]; omega
    have hwr2 : IntKind.i64.wrap (-(M9 : Int)) = -(M9 : Int) := by rw [IntKind.wrap_i64]; omega
    clear hM9 hL9 hL9b
    go_upto_region 10 with fail
    refine wp_region_held_drew (S := fun _ => True) (by kernel_rfl) (trivial) (fun hHeld => ?_)
    refine wpAnyH_take (i := 0) (v := .slice (some ⟨gb, 0, none⟩) zs.length cb) rfl (by kernel_rfl) (by kernel_rfl) (by kernel_rfl) (fun _ _ _ h => h) (Or.inl ⟨by rfl, fun W hW => ?_⟩) hHeld ?_
    · clear hW
      go_simp
    try simp only [Act.put, List.getElem_toArray, List.getElem_cons_zero, List.setIfInBounds_toArray, List.set_cons_zero, List.set_cons_succ]
    refine wpAnyH_take (i := 1) (v := .int .i64 at0) rfl (by kernel_rfl) (by kernel_rfl) (by kernel_rfl) (fun _ _ _ h => h) (Or.inl ⟨by rfl, fun W hW => ?_⟩) hHeld ?_
    · clear hW
      go_simp
    try simp only [Act.put, List.getElem_toArray, List.getElem_cons_zero, List.getElem_cons_succ, List.setIfInBounds_toArray, List.set_cons_zero, List.set_cons_succ]
    refine wpAnyH_take (i := 3) (v := .slice a0 zs.length cap0) rfl (by kernel_rfl) (by kernel_rfl) (by kernel_rfl) (fun _ _ _ h => h) (Or.inl ⟨by rfl, fun W hW => ?_⟩) hHeld ?_
    · clear hW
      go_simp
    try simp only [Act.put, List.getElem_toArray, List.getElem_cons_zero, List.getElem_cons_succ, List.setIfInBounds_toArray, List.set_cons_zero, List.set_cons_succ]
    refine wpAnyH_take (i := 4) (v := .int .i64 (zs.length : Int)) rfl (by kernel_rfl) (by kernel_rfl) (by kernel_rfl) (fun _ _ _ h => h) (Or.inl ⟨by rfl, fun W hW => ?_⟩) hHeld ?_
    · clear hW
      go_simp
    try simp only [Act.put, List.getElem_toArray, List.getElem_cons_zero, List.getElem_cons_succ, List.setIfInBounds_toArray, List.set_cons_zero, List.set_cons_succ]
    refine wpAnyH_take (i := 6) (v := .int .i64 by0) rfl (by kernel_rfl) (by kernel_rfl) (by kernel_rfl) (fun _ _ _ h => h) (Or.inl ⟨by rfl, fun W hW => ?_⟩) hHeld ?_
    · clear hW
      go_simp
    try simp only [Act.put, List.getElem_toArray, List.getElem_cons_zero, List.getElem_cons_succ, List.setIfInBounds_toArray, List.set_cons_zero, List.set_cons_succ]
    have O8 : w7.drew.ownsRow W.heap.size 3 1 (.slice (some ⟨gb, 0, none⟩) zs.length cb) zs.length (zs.map iv) := owns_keptNone HA7.out.2.1 ⟨rfl, rfl, rfl, Nat.le_refl _, fun _ _ _ => rfl⟩
    have A8 : AwQ W w7.drew g q4 cs1 := HA7.out.1.kept ⟨rfl, rfl, rfl, Nat.le_refl _, fun _ _ _ => rfl⟩
    generalize w7.drew = wd at *
    have O8l : (zs : List Int).length = zs.length := by simp
    obtain ⟨u8, cu8⟩ : ∃ u, wd.cell? ⟨gb, m, none⟩ = some u := ⟨_, (O8.cellAt m (by omega)).trans (List.getElem?_eq_getElem (by simp; omega))⟩
    have fu8 := O8.frozenAt m
    have O9 := (O8.stored m (.int .i64 (1025 + (M9 : Int)))).1
    have HO9 : Hid ((wd.setCell ⟨gb, m, none⟩ (.int .i64 (1025 + (M9 : Int)))).ownsRow W.heap.size 3 1 (.slice (some ⟨gb, 0, none⟩) zs.length cb) zs.length ((zs.set m (1025 + (M9 : Int))).map iv) ∧ AwQ W (wd.setCell ⟨gb, m, none⟩ (.int .i64 (1025 + (M9 : Int)))) g q4 cs1) := by
      refine ⟨by rw [List.map_set]; exact O9, ?_⟩
      have KS := grown_set1 wd ⟨gb, m, none⟩ (.int .i64 (1025 + (M9 : Int)))
      have GS : GW wd (wd.setCell ⟨gb, m, none⟩ (.int .i64 (1025 + (M9 : Int)))) (fun x => x = gb) := GW.of KS (fun x hx => (Option.some.inj hx).symm)
      exact ⟨A8.at'.gw GS (fun x hx e => HA7.out.2.2.2 x hx e), A8.g, A8.abs, ((GW.non (S := fun x => x = gb) A8.gr).trans GS (fun x _ h => h)).grown (fun x hl e => by have := HA7.out.2.2.1; omega)⟩
    clear O8 A8 O9 O8l
    refine wpAnyH_ready (rs := [2]) (by kernel_rfl) (by simp) (AllReadyH.cons rfl (fun K hK => ?_) AllReadyH.nil)
    go_simp
    refine (low_any at0 _).mono ?_
    rintro e wl ⟨rfl, rfl⟩
    go_wp2_with fail
    refine hK.out _ _ trivial (fun hHeld => ?_)
    clear hK K hHeld
    try simp only [Act.put, List.getElem_toArray, List.getElem_cons_zero, List.getElem_cons_succ, List.setIfInBounds_toArray, List.set_cons_zero, List.set_cons_succ]
    refine wpAnyH_take (i := 5) (v := .int .i64 (m : Int)) rfl (by kernel_rfl) (by kernel_rfl) (by kernel_rfl) (fun _ _ _ h => h) (Or.inl ⟨by rfl, fun W hW => ?_⟩) hHeld ?_
    · clear hW
      go_simp
      all_goals rw [if_neg hzne, hmt]
    try simp only [Act.put, List.getElem_toArray, List.getElem_cons_zero, List.getElem_cons_succ, List.setIfInBounds_toArray, List.set_cons_zero, List.set_cons_succ]
    refine wpAnyH_ready (rs := [7]) (by kernel_rfl) (by simp) (AllReadyH.cons rfl (fun K hK => ?_) AllReadyH.nil)
    go_simp
    refine (low_any by0 _).mono ?_
    rintro e wl ⟨rfl, rfl⟩
    go_wp2_with fail
    refine hK.out _ _ trivial (fun hHeld => ?_)
    clear hK K hHeld
    try simp only [Act.put, List.getElem_toArray, List.getElem_cons_zero, List.getElem_cons_succ, List.setIfInBounds_toArray, List.set_cons_zero, List.set_cons_succ]
    refine wpAnyH_take (i := 8) (v := .int .i64 (M9 : Int)) rfl (by kernel_rfl) (by kernel_rfl) (by kernel_rfl) (fun _ _ _ h => h) (Or.inl ⟨by rfl, fun W hW => ?_⟩) hHeld ?_
    · clear hW
      go_simp
    try simp only [Act.put, List.getElem_toArray, List.getElem_cons_zero, List.getElem_cons_succ, List.setIfInBounds_toArray, List.set_cons_zero, List.set_cons_succ]
    refine wpAnyH_take (i := 9) (v := .int .i64 (1025 + (M9 : Int))) rfl (by kernel_rfl) (by kernel_rfl) (by kernel_rfl) (fun _ _ _ h => h) (Or.inl ⟨by rfl, fun W hW => ?_⟩) hHeld ?_
    · clear hW
      go_simp
    try simp only [Act.put, List.getElem_toArray, List.getElem_cons_zero, List.getElem_cons_succ, List.setIfInBounds_toArray, List.set_cons_zero, List.set_cons_succ]
    refine wpAnyH_take (i := 10) (v := .pointer (some ⟨gb, m, none⟩)) rfl (by kernel_rfl) (by kernel_rfl) (by kernel_rfl) (fun _ _ _ h => h) (Or.inl ⟨by rfl, fun W hW => ?_⟩) hHeld ?_
    · clear hW
      go_simp
    try simp only [Act.put, List.getElem_toArray, List.getElem_cons_zero, List.getElem_cons_succ, List.setIfInBounds_toArray, List.set_cons_zero, List.set_cons_succ]
    refine wpAnyH_ready (rs := [11]) (by kernel_rfl) (by simp) (AllReadyH.cons rfl (fun K hK => ?_) AllReadyH.nil)
    go_simp
    refine hK.out _ _ trivial (fun hHeld => ?_)
    clear hK K hHeld
    try simp only [Act.put, List.getElem_toArray, List.getElem_cons_zero, List.getElem_cons_succ, List.setIfInBounds_toArray, List.set_cons_zero, List.set_cons_succ]
    refine wpAnyH_done (by kernel_rfl) ?_ _
    clear cu8 fu8
    generalize wd.setCell ⟨gb, m, none⟩ (.int .i64 (1025 + (M9 : Int))) = w8 at *
    have hbd : newB (zs.set m (1025 + (M9 : Int))) = false := newB_bad (k := m) (by simp; omega) (by simp; omega)
    obtain ⟨an, cn, han, CN9, -⟩ := CV.ofRow HO9.out.1
    simp only [Value.slice.injEq, true_and] at han
    obtain ⟨rfl, rfl⟩ := han
    have CN := lnew_len (some ⟨gb, 0, none⟩) cb zs.length (zs.set m (1025 + (M9 : Int))) (by simp) w8 CN9 (by omega)
    clear CN9
    go_wp2_with fail
    refine CN.mono ?_
    rintro e w9 ⟨K9, hN⟩
    clear CN
    rcases hN with ⟨-, rfl⟩ | ⟨hgd, -⟩
    rotate_left
    · rw [hbd] at hgd
      cases hgd
    have HA9 : Hid (AwQ W w9 g q4 cs1 ∧ w9.ownsRow W.heap.size 3 1 (.slice (some ⟨gb, 0, none⟩) zs.length cb) zs.length ((zs.set m (1025 + (M9 : Int))).map iv) ∧ W.heap.size ≤ gb ∧ ∀ x, q4.foot x → x ≠ gb) := ⟨HO9.out.2.kept K9, owns_keptNone HO9.out.1 K9, HA7.out.2.2.1, HA7.out.2.2.2⟩
    clear K9 hbd HO9
    go_upto_region 12 with fail
    refine wp_region_held_drew (S := fun _ => True) (by kernel_rfl) (trivial) (fun hHeld => ?_)
    refine wpAnyH_take (i := 0) (v := .slice (some ⟨gb, 0, none⟩) zs.length cb) rfl (by kernel_rfl) (by kernel_rfl) (by kernel_rfl) (fun _ _ _ h => h) (Or.inl ⟨by rfl, fun W hW => ?_⟩) hHeld ?_
    · clear hW
      go_simp
    try simp only [Act.put, List.getElem_toArray, List.getElem_cons_zero, List.setIfInBounds_toArray, List.set_cons_zero, List.set_cons_succ]
    refine wpAnyH_take (i := 1) (v := .int .i64 at0) rfl (by kernel_rfl) (by kernel_rfl) (by kernel_rfl) (fun _ _ _ h => h) (Or.inl ⟨by rfl, fun W hW => ?_⟩) hHeld ?_
    · clear hW
      go_simp
    try simp only [Act.put, List.getElem_toArray, List.getElem_cons_zero, List.getElem_cons_succ, List.setIfInBounds_toArray, List.set_cons_zero, List.set_cons_succ]
    refine wpAnyH_take (i := 3) (v := .slice a0 zs.length cap0) rfl (by kernel_rfl) (by kernel_rfl) (by kernel_rfl) (fun _ _ _ h => h) (Or.inl ⟨by rfl, fun W hW => ?_⟩) hHeld ?_
    · clear hW
      go_simp
    try simp only [Act.put, List.getElem_toArray, List.getElem_cons_zero, List.getElem_cons_succ, List.setIfInBounds_toArray, List.set_cons_zero, List.set_cons_succ]
    refine wpAnyH_take (i := 4) (v := .int .i64 (zs.length : Int)) rfl (by kernel_rfl) (by kernel_rfl) (by kernel_rfl) (fun _ _ _ h => h) (Or.inl ⟨by rfl, fun W hW => ?_⟩) hHeld ?_
    · clear hW
      go_simp
    try simp only [Act.put, List.getElem_toArray, List.getElem_cons_zero, List.getElem_cons_succ, List.setIfInBounds_toArray, List.set_cons_zero, List.set_cons_succ]
    refine wpAnyH_take (i := 6) (v := .int .i64 by0) rfl (by kernel_rfl) (by kernel_rfl) (by kernel_rfl) (fun _ _ _ h => h) (Or.inl ⟨by rfl, fun W hW => ?_⟩) hHeld ?_
    · clear hW
      go_simp
    try simp only [Act.put, List.getElem_toArray, List.getElem_cons_zero, List.getElem_cons_succ, List.setIfInBounds_toArray, List.set_cons_zero, List.set_cons_succ]
    have O8 : w9.drew.ownsRow W.heap.size 3 1 (.slice (some ⟨gb, 0, none⟩) zs.length cb) zs.length ((zs.set m (1025 + (M9 : Int))).map iv) := owns_keptNone HA9.out.2.1 ⟨rfl, rfl, rfl, Nat.le_refl _, fun _ _ _ => rfl⟩
    have A8 : AwQ W w9.drew g q4 cs1 := HA9.out.1.kept ⟨rfl, rfl, rfl, Nat.le_refl _, fun _ _ _ => rfl⟩
    generalize w9.drew = wd at *
    have O8l : ((zs.set m (1025 + (M9 : Int))) : List Int).length = zs.length := by simp
    obtain ⟨u8, cu8⟩ : ∃ u, wd.cell? ⟨gb, m, none⟩ = some u := ⟨_, (O8.cellAt m (by omega)).trans (List.getElem?_eq_getElem (by simp; omega))⟩
    have fu8 := O8.frozenAt m
    have O9 := (O8.stored m (.int .i64 (-(M9 : Int)))).1
    have HO9 : Hid ((wd.setCell ⟨gb, m, none⟩ (.int .i64 (-(M9 : Int)))).ownsRow W.heap.size 3 1 (.slice (some ⟨gb, 0, none⟩) zs.length cb) zs.length (((zs.set m (1025 + (M9 : Int))).set m (-(M9 : Int))).map iv) ∧ AwQ W (wd.setCell ⟨gb, m, none⟩ (.int .i64 (-(M9 : Int)))) g q4 cs1) := by
      refine ⟨by rw [List.map_set]; exact O9, ?_⟩
      have KS := grown_set1 wd ⟨gb, m, none⟩ (.int .i64 (-(M9 : Int)))
      have GS : GW wd (wd.setCell ⟨gb, m, none⟩ (.int .i64 (-(M9 : Int)))) (fun x => x = gb) := GW.of KS (fun x hx => (Option.some.inj hx).symm)
      exact ⟨A8.at'.gw GS (fun x hx e => HA9.out.2.2.2 x hx e), A8.g, A8.abs, ((GW.non (S := fun x => x = gb) A8.gr).trans GS (fun x _ h => h)).grown (fun x hl e => by have := HA9.out.2.2.1; omega)⟩
    clear O8 A8 O9 O8l
    refine wpAnyH_ready (rs := [2]) (by kernel_rfl) (by simp) (AllReadyH.cons rfl (fun K hK => ?_) AllReadyH.nil)
    go_simp
    refine (low_any at0 _).mono ?_
    rintro e wl ⟨rfl, rfl⟩
    go_wp2_with fail
    refine hK.out _ _ trivial (fun hHeld => ?_)
    clear hK K hHeld
    try simp only [Act.put, List.getElem_toArray, List.getElem_cons_zero, List.getElem_cons_succ, List.setIfInBounds_toArray, List.set_cons_zero, List.set_cons_succ]
    refine wpAnyH_take (i := 5) (v := .int .i64 (m : Int)) rfl (by kernel_rfl) (by kernel_rfl) (by kernel_rfl) (fun _ _ _ h => h) (Or.inl ⟨by rfl, fun W hW => ?_⟩) hHeld ?_
    · clear hW
      go_simp
      all_goals rw [if_neg hzne, hmt]
    try simp only [Act.put, List.getElem_toArray, List.getElem_cons_zero, List.getElem_cons_succ, List.setIfInBounds_toArray, List.set_cons_zero, List.set_cons_succ]
    refine wpAnyH_ready (rs := [7]) (by kernel_rfl) (by simp) (AllReadyH.cons rfl (fun K hK => ?_) AllReadyH.nil)
    go_simp
    refine (low_any by0 _).mono ?_
    rintro e wl ⟨rfl, rfl⟩
    go_wp2_with fail
    refine hK.out _ _ trivial (fun hHeld => ?_)
    clear hK K hHeld
    try simp only [Act.put, List.getElem_toArray, List.getElem_cons_zero, List.getElem_cons_succ, List.setIfInBounds_toArray, List.set_cons_zero, List.set_cons_succ]
    refine wpAnyH_take (i := 8) (v := .int .i64 (M9 : Int)) rfl (by kernel_rfl) (by kernel_rfl) (by kernel_rfl) (fun _ _ _ h => h) (Or.inl ⟨by rfl, fun W hW => ?_⟩) hHeld ?_
    · clear hW
      go_simp
    try simp only [Act.put, List.getElem_toArray, List.getElem_cons_zero, List.getElem_cons_succ, List.setIfInBounds_toArray, List.set_cons_zero, List.set_cons_succ]
    refine wpAnyH_take (i := 9) (v := .int .i64 (-(M9 : Int))) rfl (by kernel_rfl) (by kernel_rfl) (by kernel_rfl) (fun _ _ _ h => h) (Or.inl ⟨by rfl, fun W hW => ?_⟩) hHeld ?_
    · clear hW
      go_simp
    try simp only [Act.put, List.getElem_toArray, List.getElem_cons_zero, List.getElem_cons_succ, List.setIfInBounds_toArray, List.set_cons_zero, List.set_cons_succ]
    refine wpAnyH_take (i := 10) (v := .pointer (some ⟨gb, m, none⟩)) rfl (by kernel_rfl) (by kernel_rfl) (by kernel_rfl) (fun _ _ _ h => h) (Or.inl ⟨by rfl, fun W hW => ?_⟩) hHeld ?_
    · clear hW
      go_simp
    try simp only [Act.put, List.getElem_toArray, List.getElem_cons_zero, List.getElem_cons_succ, List.setIfInBounds_toArray, List.set_cons_zero, List.set_cons_succ]
    refine wpAnyH_ready (rs := [11]) (by kernel_rfl) (by simp) (AllReadyH.cons rfl (fun K hK => ?_) AllReadyH.nil)
    go_simp
    refine hK.out _ _ trivial (fun hHeld => ?_)
    clear hK K hHeld
    try simp only [Act.put, List.getElem_toArray, List.getElem_cons_zero, List.getElem_cons_succ, List.setIfInBounds_toArray, List.set_cons_zero, List.set_cons_succ]
    refine wpAnyH_done (by kernel_rfl) ?_ _
    clear cu8 fu8
    generalize wd.setCell ⟨gb, m, none⟩ (.int .i64 (-(M9 : Int))) = w10 at *
    have hbd : newB ((zs.set m (1025 + (M9 : Int))).set m (-(M9 : Int))) = false := newB_bad (k := m) (by simp; omega) (by simp; omega)
    obtain ⟨an, cn, han, CN9, -⟩ := CV.ofRow HO9.out.1
    simp only [Value.slice.injEq, true_and] at han
    obtain ⟨rfl, rfl⟩ := han
    have CN := lnew_len (some ⟨gb, 0, none⟩) cb zs.length ((zs.set m (1025 + (M9 : Int))).set m (-(M9 : Int))) (by simp) w10 CN9 (by omega)
    clear CN9
    go_wp2_with fail
    refine CN.mono ?_
    rintro e w11 ⟨K9, hN⟩
    clear CN
    rcases hN with ⟨-, rfl⟩ | ⟨hgd, -⟩
    rotate_left
    · rw [hbd] at hgd
      cases hgd
    have HA11 : Hid (AwQ W w11 g q4 cs1 ∧ w11.ownsRow W.heap.size 3 1 (.slice (some ⟨gb, 0, none⟩) zs.length cb) zs.length (((zs.set m (1025 + (M9 : Int))).set m (-(M9 : Int))).map iv) ∧ W.heap.size ≤ gb ∧ ∀ x, q4.foot x → x ≠ gb) := ⟨HO9.out.2.kept K9, owns_keptNone HO9.out.1 K9, HA7.out.2.2.1, HA7.out.2.2.2⟩
    clear K9 hbd HO9
    have HA12 : Hid (AwQ W w11 g q4 cs1) := HA11.out.1
    clear HA7 HA9 HA11
    have CL := lqlens_any W.heap.size q4 w11 HA12.out.at'
    rw [HA12.out.g, HA12.out.abs] at CL
    go_wp2_with fail
    refine CL.mono ?_
    rintro e w12 ⟨vn, rfl, N, K12⟩
    clear CL
    have HK12 : Hid (W.grownBy w12 none) := grown_trans HA12.out.gr K12
    obtain ⟨an, cn, hvn, CN12, -⟩ := CV.ofRow N
    subst hvn
    have hcl : (lensP cs1).length ≤ 17 := by
      have h1 := HA12.out.at'.few
      rw [← HA12.out.abs]
      simpa [lensP, Lq.abs] using h1
    obtain ⟨hs1, hs2⟩ := HS.out
    have HSM : Hid ((lensP cs1).sum = 1 ∧ (∀ x ∈ lensP cs1, 0 ≤ x) ∧ CV w12 an ((lensP cs1).map iv)) := ⟨hs1, hs2, CN12⟩
    generalize lensP cs1 = ls at *
    clear N K12 HA12 hs1 hs2 CN12 HS
    go_wp2
    go_loopw [24, 25] (fun s i wr => ∃ k : Nat, k ≤ ls.length ∧ i = .int .i64 k ∧ s = .int .i64 (ls.take k).sum ∧ SameW w12 wr) (fun _ i _ => ls.length - (intOf i).toNat)
    case atStart => exact ⟨0, Nat.zero_le _, rfl, by simp, SameW.refl _⟩
    case round =>
      obtain ⟨k, hk, rfl, rfl, hw⟩ := hrel
      obtain rfl : w12 = wr := hw
      by_cases hlt : k < ls.length
      · obtain ⟨b, o, rfl, hc⟩ := HSM.out.2.2.ints hlt
        have c0 := hc k hlt
        have b1 := sum_le ls HSM.out.2.1 k
        have b2 := sum_le ls HSM.out.2.1 (k + 1)
        rw [HSM.out.1] at b1 b2
        have e1 : (ls.take (k + 1)).sum = (ls.take k).sum + ls[k] := by rw [List.take_succ_eq_append_getElem hlt, List.sum_append]; simp
        have HE : Hid ((ls.take (k + 1)).sum = (ls.take k).sum + ls[k]) := e1
        have hli : (k : Int) < (ls.length : Int) := by omega
        have bz : 0 ≤ (ls.take k).sum + ls[k] ∧ (ls.take k).sum + ls[k] ≤ 1 := by rw [← e1]; exact b2
        clear hc e1 b2
        generalize ls[k] = z at *
        generalize (ls.take k).sum = sk at *
        go_wp2
        go_roundw
        case rel => exact ⟨k + 1, by omega, by go_num, by rw [HE.out], SameW.refl _⟩
        case measure => simp [intOf]; omega
      · obtain rfl : k = ls.length := by omega
        rw [List.take_length, HSM.out.1]
        clear HSM
        go_wp2_with fail
        refine (awake21_any w12).mono ?_
        rintro e w13 ⟨rfl, K13⟩
        have HK13 : Hid (W.grownBy w13 none) := grown_trans HK12.out K13
        clear K13 HK12
        go_wp2
        go_ret
        exact ⟨rfl, HK13.out⟩

set_option maxRecDepth 100000 in
theorem lifted (os : Os) (started : os.Started) (H : Type) (enc : TypeId × Value → H) :
    ReturnsInHanded {} Try.checked os 6 .any (Rows.queueRefusesSpec.pre6 enc Try.prog Try.f6 Rows.queueRefusesRow.domain false) (Rows.queueRefusesSpec.post enc Try.prog Try.f6 false true false false) := by
  refine returnsInHanded_of_change_sized (C := Try.checked) own started (by kernel_rfl) Try.func6
    (ChangeSpec.witness6 (enc := enc) (C := Try.checked) false ⟨#[], #[.slice none 0 0, .int .i64 0, .int .i64 0], []⟩ 8 (by kernel_rfl) (by kernel_rfl) (by kernel_rfl) (by kernel_rfl)) ?_
  intro W base args ds gs before hval0 hW hcnd hsz0 _
  have hsz : (DataW.weightsEach Try.prog (Try.f6.params.toList ++ Rows.queueRefusesSpec.plain.varTypes Try.prog) (ds ++ gs)).all (· ≤ reachBytes) = true := hsz0
  have hval : ∀ (j : Nat) t v, Try.f6.params[j]? = some t → args[j]? = some v → Value.okWide Try.prog W .any base t v := hval0
  have hW' := hW
  obtain ⟨p, q, hA0, hV, rfl, hfz, hnd⟩ := hW
  have hA : DataW.TrodAll enc Try.prog W 0 (fun _ => true) true Try.f6.params.toList args.toList ds p := hA0
  rw [Try.params6] at hA hval hsz
  obtain ⟨v0, vs0, d0, ds0, p0, q0, hargs, rfl, rfl, h0, r0⟩ := trodAll_cons hA
  obtain ⟨v1, vs1, d1, ds1, p1, q1, rfl, rfl, rfl, h1, r1⟩ := trodAll_cons r0
  obtain ⟨v2, vs2, d2, ds2, p2, q2, rfl, rfl, rfl, h2, r2⟩ := trodAll_cons r1
  obtain ⟨rfl, rfl, rfl⟩ := trodAll_nil r2
  obtain rfl : args = #[v0, v1, v2] := by cases args; simp_all
  obtain ⟨rfl, rfl⟩ := trodVars_none hV
  obtain ⟨a0, len0, cap0, rfl⟩ := okWide_slice Try.underlying22 (hval 0 22 v0 rfl rfl)
  have k0 := h0
  have lt0 : ∀ x ∈ p0, x.block < W.heap.size := by obtain ⟨m, hm⟩ := k0; exact DataW.trod_lt m _ _ _ hm
  obtain ⟨zs0, rfl, hcv0, hnil0, hdat0⟩ := open_intl Try.underlying22 Try.underlying3 (by kernel_rfl) h0
  obtain ⟨x1, rfl, rfl, rfl, w1⟩ := open_int Try.underlying3 (hval 1 3 v1 rfl rfl) h1
  obtain ⟨x2, rfl, rfl, rfl, w2⟩ := open_int Try.underlying3 (hval 2 3 v2 rfl rfl) h2
  have hlen0 : zs0.length * 8 ≤ 140737488351232 := by
    rcases hdat0 with ⟨_, rfl⟩ | ⟨elems, spare, rfl, hle⟩
    · simp
    · have := sized_slice hsz (j := 0) (t := 22) (e := 3) rfl rfl Try.underlying22
      rw [bytes3] at this
      unfold reachBytes at this
      omega
  clear hA0 hval0
  refine (walk a0 cap0 zs0 x1 x2 W hcv0 hnil0 hlen0).mono fun e W' ⟨he, hg⟩ => ?_
  subst he
  have bel : Below W.heap.size W W' := (Below.refl _ _).grown hg (Nat.le_refl _) (by simp)
  exact ⟨_, rfl, _, _, _, [], _, [], hW', trodAll_mk1 (shut_bool Try.underlying4 _), (trodAll_cons_mk (Below.trod laidOut (by kernel_rfl) (of_decide_eq_true (by kernel_rfl)) k0 bel lt0) (trodAll_cons_mk (shut_int Try.underlying3 w1) (trodAll_cons_mk (shut_int Try.underlying3 w2) trodAll_mk0))), rfl, bel.frame _, fun h => by cases h⟩

theorem over : Rows.QueueRefusesSaid :=
  OpenClaim.holds_of_wide 6 Try.f6 rfl rfl rfl rfl rfl rfl rfl ⟨rfl, rfl, rfl, rfl, rfl⟩ rfl rfl rfl rfl rfl (by kernel_rfl) Try.func6 (by kernel_rfl)
    (of_decide_eq_true (by kernel_rfl)) (by unfold Func.isWrapper; first | (rw [if_pos (by decide +kernel)]; kernel_rfl) | (rw [if_neg (by decide +kernel)]; exact ⟨rfl, rfl⟩))
    (fun os started H enc _ => lifted os started H enc)

end queueRefuses

theorem queueRefuses_holds : Rows.QueueRefusesSaid := queueRefuses.over
#print axioms queueRefuses_holds

end Go.Proofs.Ytlfjpbedjmnpaaa
