import Derived.Test.YtklipelnjgpnjaaGreatDoorAb
import Derived.Test.YtklipelnjgpnjaaGreatDoorLotA4
import Derived.Test.YtklipelnjgpnjaaGreatDoorLotA5
import Derived.Deep.RegionHeld3
import Derived.OrdersIn
import Derived.Test.YtklipelnjgpnjaaGreatDoorLotA2
import Derived.Maps.AppendAt
import Derived.RangeFuncCalls
namespace Go.Proofs.YtklipelnjgpnjaaGreatDoor
open Go.RowKit Go.Shelf
set_option maxRecDepth 100000

attribute [local go_sem] Oper.semAt_some
def rvL (xs : List (List UInt8)) : List (Nat × List UInt8) := (numF 0 xs).reverse
theorem rvL_len (xs : List (List UInt8)) : (rvL xs).length = xs.length := by rw [rvL, List.length_reverse, numF_len]
theorem rvL_at (xs : List (List UInt8)) (k : Nat) (h : k < xs.length) : (rvL xs)[k]? = some (xs.length - 1 - k, xs[xs.length - 1 - k]'(by omega)) := by
 unfold rvL
 rw [List.getElem?_reverse (by rw [numF_len]; exact h), numF_len, numF_at 0 xs (xs.length - 1 - k) (by omega), Nat.zero_add]
theorem rvL_snd (xs : List (List UInt8)) : (rvL xs).map (·.2) = xs.reverse := by rw [rvL, List.map_reverse, numF_snd]
set_option maxHeartbeats 1000000 in
theorem back_any (a : Option Addr) (m cap : Nat) (w : World) :
  Calls Tryz.prog 131 #[.slice a m cap] w fun e w' => e = .returned (.func (.func 162) #[] #[.pointer (some ⟨w.heap.size, 0, none⟩)]) ∧ w' = w.alloc (.cells #[.slice a m cap] 82) := by
 go_enter Tryz.func131, Tryz.ntmps131
 go_wp2
 go_ret
 exact ⟨rfl, rfl⟩
set_option maxRecDepth 100000 in
set_option maxHeartbeats 2000000 in
theorem back1_in (n : Nat) (hn : 1 ≤ n) (l Bs b o cap n₀ : Nat) (S : Nat → Prop) (xs : List (List UInt8)) (hs : xs.length ≤ 1000000) (hS : S Bs ∨ Bs < n₀) (hA : S b ∨ b < n₀) (J Jx : List (Nat × List UInt8) → World → Prop)
  (hY : ∀ pre x W, J pre W → pre.length < xs.length → YieldAt Fence.wide (n - 1) Tryz.prog l (encP x) W fun e W' =>
   (e = .returned (.bool true) ∧ J (pre ++ [x]) W' ∧ Kp n₀ S W W') ∨ (e = .returned (.bool false) ∧ Jx (pre ++ [x]) W'))
  (W : World) (hBs : W.cell? ⟨Bs, 0, none⟩ = some (.slice (some ⟨b, o, none⟩) xs.length cap)) (hX : ∀ j (h : j < xs.length), W.cell? ⟨b, o + j, none⟩ = some (str xs[j])) (h0 : J [] W) :
  CallsIn Fence.wide n Tryz.prog 162 #[.func (.yield l) #[] #[], .pointer (some ⟨Bs, 0, none⟩)] W fun e W' => (∃ v, e = .returned v) ∧
   ((∃ ys, ys = rvL xs ∧ J ys W') ∨ (∃ pre, pre <+: rvL xs ∧ Jx pre W')) := by
 have w0 : IntKind.i64.wrap ((xs.length : Int) - 1) = (xs.length : Int) - 1 := by rw [IntKind.wrap_i64]; omega
 have HX : Hid (∀ j (h : j < xs.length), W.cell? ⟨b, o + j, none⟩ = some (str xs[j])) := hX
 clear hX
 refine callsIn_of_wp Tryz.func162 rfl trivial ?_ rfl
 simp only [Tryz.ntmps162, List.size_toArray, List.length_cons, List.length_nil, Nat.reduceAdd, Nat.reduceSub, Array.replicate_succ, Array.replicate_zero, List.push_toArray, List.append_toArray, List.nil_append, List.cons_append]
 gi_wp2
 gi_loopw [3] (fun i wr => ∃ pre : List (Nat × List UInt8), i = .int .i64 ((xs.length : Int) - 1 - (pre.length : Int)) ∧ pre.length ≤ xs.length ∧ Hid (pre = (rvL xs).take pre.length) ∧ J pre wr ∧ wr.cell? ⟨Bs, 0, none⟩ = some (.slice (some ⟨b, o, none⟩) xs.length cap) ∧ Hid (∀ j (h : j < xs.length), wr.cell? ⟨b, o + j, none⟩ = some (str xs[j]))) (fun i _ => (intOf i + 1).toNat)
 case atStart => exact ⟨[], by simp, Nat.zero_le _, rfl, h0, hBs, HX.out⟩
 case round =>
  clear h0 hBs HX w0
  obtain ⟨pre, rfl, hpl, HN, hJs, hcs, HXs⟩ := hrel
  by_cases hlt : pre.length < xs.length
  ·obtain ⟨m, hm⟩ : ∃ m : Nat, xs.length - 1 - pre.length = m := ⟨_, rfl⟩
   have hml : m < xs.length := by omega
   have hi : ((xs.length : Int) - 1 - (pre.length : Int)) = (m : Int) := by omega
   have HX1 : Hid ((rvL xs)[pre.length]? = some (m, xs[m]'hml)) := by
    show _ = _
    rw [rvL_at xs pre.length hlt]
    simp only [hm]
   have HN3 : Hid (pre ++ [(m, xs[m]'hml)] = (rvL xs).take (pre.length + 1)) := by
    show _ = _
    have hl := rvL_len xs
    have h1 := HX1.out
    obtain ⟨h2, h3⟩ := List.getElem?_eq_some_iff.1 h1
    rw [List.take_succ_eq_append_getElem h2, h3, ← HN.out]
   have cx := HXs.out m hml
   have hw1 : IntKind.i64.wrap ((m : Int) - 1) = (m : Int) - 1 := by rw [IntKind.wrap_i64]; omega
   have m0 : (0 : Int) ≤ (m : Int) := by omega
   have m1 : (m : Int) < (xs.length : Int) := by omega
   have HMI : Hid ((m : Int) - 1 = (xs.length : Int) - 1 - ((pre.length + 1 : Nat) : Int)) := by show _ = _; omega
   obtain ⟨fn, tmps, assign, body, hy, hR⟩ := hY pre (m, xs[m]'hml) wr hJs hlt
   dsimp only [encP] at hy
   rw [hi]
   clear hi hm hJs HN
   generalize xs[m]'hml = X at *
   gi_wp2
   refine hR.mono ?_
   rintro e W3 (⟨rfl, hJ3, hk3⟩ | ⟨rfl, hJx3⟩)
   ·have hcs3 := hk3.cell (a := ⟨Bs, 0, none⟩) (hS.elim .inr .inl) hcs
    have HX3 : Hid (∀ j (h : j < xs.length), W3.cell? ⟨b, o + j, none⟩ = some (str xs[j])) := fun j h => hk3.cell (a := ⟨b, o + j, none⟩) (hA.elim .inr .inl) (HXs.out j h)
    clear hcs cx HXs
    gi_wp2
    go_roundw
    case rel => exact ⟨pre ++ [(m, X)], by rw [List.length_append]; exact congrArg (Value.int .i64) HMI.out, by rw [List.length_append]; exact hlt, by rw [List.length_append]; exact HN3.out, hJ3, hcs3, HX3.out⟩
    case measure => simp only [intOf]; omega
   ·gi_wp2
    refine bodyPost_ret (results_none rfl _ _ _) rfl ?_
    exact ⟨⟨_, rfl⟩, .inr ⟨pre ++ [(m, X)], by rw [HN3.out]; exact List.take_prefix _ _, hJx3⟩⟩
  ·have hi : ((xs.length : Int) - 1 - (pre.length : Int)) = -1 := by omega
   have HE : Hid (pre = rvL xs) := by
    show _ = _
    have h := HN.out
    rw [show pre.length = (rvL xs).length by rw [rvL_len]; omega, List.take_length] at h
    exact h
   rw [hi]
   clear hi
   gi_wp2
   go_end0
   exact ⟨⟨_, rfl⟩, .inl ⟨pre, HE.out, hJs⟩⟩
theorem back_stops (n : Nat) (hn : 1 ≤ n) (Bs b o cap n₀ : Nat) (S : Nat → Prop) (xs : List (List UInt8)) (hs : xs.length ≤ 1000000) (hS : S Bs ∨ Bs < n₀) (hA : S b ∨ b < n₀) (w : World) (hBs : w.cell? ⟨Bs, 0, none⟩ = some (.slice (some ⟨b, o, none⟩) xs.length cap)) (hX : ∀ j (h : j < xs.length), w.cell? ⟨b, o + j, none⟩ = some (str xs[j])) :
  SeqStopsK Fence.wide n Tryz.prog 162 #[.pointer (some ⟨Bs, 0, none⟩)] encP (Kp n₀ S) (fun ys => ys = rvL xs) (fun pre => pre <+: rvL xs) xs.length w := fun l J Jx W hW _ _ hY h0 => by
 have lt : ∀ {a : Addr} {v : Value}, w.cell? a = some v → a.block < w.heap.size := fun {a v} h => by
  by_cases hb : a.block < w.heap.size
  ·exact hb
  ·unfold World.cell? at h
   rw [Array.getElem?_eq_none (by omega)] at h
   simp at h
 exact back1_in n hn l Bs b o cap n₀ S xs hs hS hA J Jx hY W ((hW.cell (p := ⟨Bs, 0, none⟩) (lt hBs)).trans hBs) (fun j h => (hW.cell (p := ⟨b, o + j, none⟩) (lt (hX j h))).trans (hX j h)) h0

open Go.RowKit Go.Shelf
theorem upon_round {l n : Nat} {P : Program} {o : Oper} {a : Act} {K : Act → World → Prop} {Q : Exit → Act → World → Prop} {r : Result Next} (h : o.upon P a K Q r) : o.uponIn (Fence.wide.inRound l) n P a K Q r := by
 match r, h with
 | .ok (.value v) w, h => exact h
 | .ok .skip w, h => exact h
 | .ok (.defer d) w, h => exact h
 | .ok (.enter f args) w, h => exact ⟨fun hh => (by cases hh), callsIn_wide.2 h⟩
 | .ok (.row row args) w, h => exact ⟨fun hh => (by cases hh), fun c cs _ => let ⟨v, w', r, s⟩ := h c cs; ⟨v, w', r, stepsIn_wide.2 s⟩⟩
 | .ok (.round _ _ _ _ _) w, h => exact h.elim
 | .halt (.panic v) w, h => exact h
theorem oper_round {l n : Nat} {P : Program} {o : Oper} {a : Act} {w : World} {K : Act → World → Prop} {Q : Exit → Act → World → Prop} (hd : ∀ c, o.op ≠ Op.defer c) (h : o.wp P a w K Q) : o.wpIn (Fence.wide.inRound l) n P a w K Q := by
 refine ⟨fun _ _ => trivial, ?_⟩
 rw [Oper.semAt_plain _ _ _ hd]
 exact upon_round h
theorem any_round {l n : Nat} {P : Program} {md : Region.Mode} {ops : Array Oper} {Q : Exit → Act → World → Prop} (hL : LetsOut Q → False) (hd : ∀ (i : Nat) (o : Oper), ops[i]? = some o → ∀ c, o.op ≠ Op.defer c) : ∀ (fuel : Nat) (listed : Array Bool) (a : Act) (w : World), wpAny P md ops Q fuel listed a w → wpAnyIn (Fence.wide.inRound l) n P md ops Q fuel listed a w
 | 0, _, _, _, h => h
 | fuel + 1, listed, a, w, h => ⟨h.1, fun i hi => by
  have h2 := h.2 i hi
  unfold wpOp at h2
  unfold wpOpIn
  cases ho : ops[i]? with
  | none =>
   rw [ho] at h2
   exact any_round hL hd fuel _ _ _ h2
  | some o =>
   rw [ho] at h2
   simp only at h2 ⊢
   by_cases hw : Region.wanted o (yielded ops a.tmps) = true
   ·rw [if_pos hw] at h2 ⊢
    exact oper_round (hd i o ho) (Oper.wp_mono (fun a w h => any_round hL hd fuel _ a w h) (h2.resolve_right (fun h => hL h.2)))
   ·rw [if_neg hw] at h2 ⊢
    exact ⟨fun _ _ => trivial, any_round hL hd fuel _ _ _ h2⟩⟩
def notDefer (o : Oper) : Bool := match o.op with
 | .defer _ => false
 | _ => true
theorem not_defer {ops : Array Oper} (h : ops.all notDefer = true) (i : Nat) (o : Oper) (ho : ops[i]? = some o) : ∀ c, o.op ≠ Op.defer c := fun c hc => by
 have := Array.all_eq_true.1 h
 obtain ⟨hi, rfl⟩ := Array.getElem?_eq_some_iff.1 ho
 have := this i hi
 unfold notDefer at this
 rw [hc] at this
 cases this
theorem region_round {l n id : Nat} {P : Program} {ops : Array Oper} {Q : Exit → Act → World → Prop} {S : World → Prop} {a : Act} {w : World} (hm : P.follows .mixedOrders = true) (hL : LetsOut Q → False) (hd : ops.all notDefer = true) (hS : S w.drew)
  (h : S w.drew → wpAnyH P .any ops Q S ops.size (Array.replicate ops.size false) a w.drew) : (Code.region id ops true).wpIn (Fence.wide.inRound l) n P Q a w :=
 wpIn_region_any hm (any_round hL (not_defer hd) _ _ _ _ (wpAny_of_held _ _ _ _ (h hS)))

open Go.RowKit Go.Shelf

attribute [local go_sem] Oper.semAt_some
def WtV (W : World) (B7 b : Nat) (v : Value) (ts : List (List UInt8)) (ne dp : Int) : Prop :=
 W.heap[b]? = some (.cells #[v, .int .i64 ne, .int .i64 dp] 87 (0, 0)) ∧ W.ownsRow B7 9 1 v ts.length (ts.map str)
theorem WtV.cell {W : World} {B7 b : Nat} {v : Value} {ts : List (List UInt8)} {ne dp : Int} (h : WtV W B7 b v ts ne dp) : W.cell? ⟨b, 0, none⟩ = some v ∧ W.cell? ⟨b, 1, none⟩ = some (.int .i64 ne) ∧ W.cell? ⟨b, 2, none⟩ = some (.int .i64 dp) :=
 ⟨VAt.cell h.1 0, VAt.cell h.1 1, VAt.cell h.1 2⟩
theorem WtV.kept {W W' : World} {B7 b : Nat} {v : Value} {ts : List (List UInt8)} {ne dp : Int} (h : WtV W B7 b v ts ne dp) (G : W.grownBy W' none) : WtV W' B7 b v ts ne dp := ⟨VAt.kept h.1 G, owns_keptNone h.2 G⟩
def KpS (N b : Nat) (o : Option Nat) (x y z k : Nat) : Prop := (k < N ∧ k ≠ b ∧ o ≠ some k) ∨ k = x ∨ k = y ∨ k = z
def OwnGo (N : Nat) (o : Option Nat) (v : Value) : Prop := v.ownBlock = o ∨ ∃ g, v.ownBlock = some g ∧ N ≤ g
theorem OwnGo.refl (N : Nat) (v : Value) : OwnGo N v.ownBlock v := .inl rfl
theorem OwnGo.trans {N N' : Nat} {o : Option Nat} {v v' : Value} (h : OwnGo N o v) (k : OwnGo N' v.ownBlock v') (hN : N ≤ N') : OwnGo N o v' := by
 rcases k with e | ⟨g, e, hg⟩
 ·rcases h with e' | ⟨g, e', hg⟩
  ·exact .inl (e.trans e')
  ·exact .inr ⟨g, e.trans e', hg⟩
 ·exact .inr ⟨g, e, by omega⟩
theorem OwnGo.mono {N N' : Nat} {o : Option Nat} {v : Value} (h : OwnGo N o v) (hN : N' ≤ N) : OwnGo N' o v := h.elim .inl (fun ⟨g, e, hg⟩ => .inr ⟨g, e, by omega⟩)
theorem OwnGo.ne {N k : Nat} {o : Option Nat} {v : Value} (h : OwnGo N o v) (hk : k < N) (ho : o ≠ some k) : v.ownBlock ≠ some k := by
 rcases h with e | ⟨g, e, hg⟩
 ·rw [e]; exact ho
 ·rw [e]; intro e2; have := Option.some.inj e2; omega
theorem Kp.weak {n : Nat} {S S' : Nat → Prop} {W W' : World} (h : Kp n S W W') (hs : ∀ k, S' k → S k) : Kp n S' W W' := ⟨h.1, fun k o hk ho hc => h.2 k o (hs k hk) ho hc⟩
def IPut (B B7 N b : Nat) (ow : Option Nat) (x y z : Nat) (ts : List (List UInt8)) (ne dp : Int) (w2 : World) (pre : List (Nat × List UInt8)) (W : World) : Prop :=
 ((∃ v, WtV W B7 b v (ts ++ pre.map (·.2)) ne dp ∧ OwnGo N ow v ∧ v.ownBlock ≠ some x ∧ v.ownBlock ≠ some y ∧ v.ownBlock ≠ some z) ∧ ∀ k o, KpS N b ow x y z k → w2.heap[k]? = some o → o.isCells = true → W.heap[k]? = some o) ∧ Below B w2 W
theorem iput_own (B B7 N b : Nat) (ow : Option Nat) (x y z : Nat) (ts : List (List UInt8)) (ne dp : Int) (w2 : World) (D : Nat) (hB : B ≤ w2.heap.size) (hD : B ≤ D) : OwnFrom D (IPut B B7 N b ow x y z ts ne dp w2) := by
 refine OwnFrom.and (fun pre W W' row hs hg hr => ?_) (ownFrom_below hB hD)
 have key : ∀ {k : Nat} {o : Obj}, W.heap[k]? = some o → o.isCells = true → W'.heap[k]? = some o := fun {k o} ho hc => by
  rw [hg.block k (Array.getElem?_eq_some_iff.1 ho).1 (fun e => by
   obtain ⟨-, o', ho', hc'⟩ := hr k e.symm
   rw [ho] at ho'
   cases ho'
   rw [hc] at hc'
   cases hc')]
  exact ho
 obtain ⟨⟨v, ⟨h1, h2⟩, h3⟩, h4⟩ := hs
 refine ⟨⟨v, ⟨key h1 rfl, h2.kept hg ?_⟩, h3⟩, fun k o hk ho hc => key (h4 k o hk ho hc) hc⟩
 rcases h2.2 with ⟨rfl, -⟩ | ⟨g, cap, cur, rfl, -, hg2, -⟩
 ·exact .inl rfl
 ·refine .inr (fun e => ?_)
  obtain ⟨-, o', ho', hc'⟩ := hr g e.symm
  rw [hg2] at ho'
  cases ho'
  cases hc'
theorem wtinfo9 : (Tryz.prog.info? 9).map (fun i => (i.zero, i.size, i.bytes)) = some (some (.string ⟨#[]⟩), 1, 16) := by kernel_rfl
theorem wp_append_at {P : Program} (w : World) {o : Oper} {a : Act} {K : Act → World → Prop} {Q : Exit → Act → World → Prop} (s x : Operand) (t : TypeId)
  (ho : o.op = .call { callee := .builtin .append, args := #[s, x], argTypes := #[t, t] })
  (base : Nat) (e : TypeId) (i : TypeInfo) (z : Value) (size bytes : Nat) (ht : P.underlying t = some (.slice e)) (hi : P.info? e = some i) (hz : i.zero = some z)
  (hsize : i.size = size) (hby : i.bytes = bytes) (hzs : z.cells.size = size) (hsz : 0 < size)
  (v : Value) (n : Nat) (xs : List Value) (hs : a.eval s = v) (hown : w.ownsRow base e size v n xs)
  (ad : Addr) (m c : Nat) (news : List Value) (hx : a.eval x = .slice (some ad) m c) (hl : news.length = m * size) (hnews : ∀ j u, news[j]? = some u → w.cell? (ad.add j) = some u) (h1 : ∀ u ∈ news, u.oneCell' = true)
  (h63 : n + m ≤ maxLen) (hbytes : (n + m) * bytes ≤ 140737488355328) (hbase : base ≤ w.heap.size)
  (h : ∀ v' w', w'.ownsRow base e size v' (n + m) (xs ++ news) → w.grownBy w' v.ownBlock → (v'.ownBlock = v.ownBlock ∨ v'.ownBlock = some w.heap.size) → K (a.put o.dst v') w') : o.wp P a w K Q := by
 obtain ⟨v', w', hr, h2, h3, h4, h5⟩ := run_append_own_at (P := P) w base t o.type e i z size bytes ht hi hz hsize hby hzs hsz v n xs hown ad m c news hl hnews h1 h63 hbytes hbase
 unfold Oper.wp execOp
 simp only [ho, resolve, invoke, builtin, Sem.run_bind, Sem.run_pure, Result.andThen_ok, List.map_toArray, List.map_cons, List.map_nil, hs, hx, hr]
 exact h v' w' h2 h3 h5
theorem put_step {B B7 N b x y z : Nat} {ow : Option Nat} {ts : List (List UInt8)} {X : List UInt8} {ne dp : Int} {w2 W Wa Wf : World} {v v' : Value} (hB : B ≤ b) (hb7 : b < B7) (hx : B7 ≤ x ∧ x < w2.heap.size) (hy : B7 ≤ y ∧ y < w2.heap.size) (hz : B7 ≤ z ∧ z < w2.heap.size)
  (hN : N ≤ w2.heap.size) (hgo : OwnGo N ow v) (hW : WtV W B7 b v ts ne dp) (hs : v.ownBlock ≠ some x ∧ v.ownBlock ≠ some y ∧ v.ownBlock ≠ some z) (hK : ∀ k o, KpS N b ow x y z k → w2.heap[k]? = some o → o.isCells = true → W.heap[k]? = some o) (hBl : Below B w2 W)
  (t : Nat) (hWa : Wa = W.drew.alloc (.cells #[str X] t)) (O : Wf.ownsRow B7 9 1 v' (ts.length + 1) (ts.map str ++ [str X])) (G : Wa.grownBy Wf v.ownBlock) (hat : v'.ownBlock = v.ownBlock ∨ v'.ownBlock = some Wa.heap.size) :
  Wf.cell? ⟨b, 0, none⟩ = some v ∧ Wf.frozen? ⟨b, 0, none⟩ = false ∧ KeepsOthers W (Wf.setCell ⟨b, 0, none⟩ v') ∧ Kp B (KpS N b ow x y z) W (Wf.setCell ⟨b, 0, none⟩ v') ∧
   ((∃ u, WtV (Wf.setCell ⟨b, 0, none⟩ v') B7 b u (ts ++ [X]) ne dp ∧ OwnGo N ow u ∧ u.ownBlock ≠ some x ∧ u.ownBlock ≠ some y ∧ u.ownBlock ≠ some z) ∧ ∀ k o, KpS N b ow x y z k → w2.heap[k]? = some o → o.isCells = true → (Wf.setCell ⟨b, 0, none⟩ v').heap[k]? = some o) ∧ Below B w2 (Wf.setCell ⟨b, 0, none⟩ v') := by
 subst hWa
 have hsz : w2.heap.size ≤ W.heap.size := hBl.size
 have hown := hW.2.lt
 have hbl : b < W.heap.size := VAt.lt hW.1
 have GA : W.grownBy (W.drew.alloc (.cells #[str X] t)) none := ⟨rfl, rfl, rfl, by simp, fun k hk _ => by first | exact heap_alloc_old W.drew _ k hk | exact heap_alloc_old W.drew _ hk⟩
 have VA : VAt (W.drew.alloc (.cells #[str X] t)) b 87 #[v, .int .i64 ne, .int .i64 dp] := VAt.kept hW.1 GA
 have hbv : v.ownBlock ≠ some b := fun e => by have := (hown b e).1; omega
 have VB : VAt Wf b 87 #[v, .int .i64 ne, .int .i64 dp] := VAt.grown VA G hbv
 have kept : ∀ k, k < W.heap.size → v.ownBlock ≠ some k → k ≠ b → (Wf.setCell ⟨b, 0, none⟩ v').heap[k]? = W.heap[k]? := fun k hk h1 h2 => by
  rw [Below.heap_setCell _ _ _ _ h2, G.block k (Nat.lt_of_lt_of_le hk GA.size) (fun e => h1 e.symm), GA.block k hk (by simp)]
 have keptS : ∀ k o, KpS N b ow x y z k → W.heap[k]? = some o → (Wf.setCell ⟨b, 0, none⟩ v').heap[k]? = some o := fun k o hk ho => by
  have hkl : k < W.heap.size := (Array.getElem?_eq_some_iff.1 ho).1
  rw [kept k hkl ?_ ?_]
  ·exact ho
  ·intro e
   rcases hk with ⟨h, -, h'⟩ | rfl | rfl | rfl
   ·exact hgo.ne h h' e
   ·exact hs.1 e
   ·exact hs.2.1 e
   ·exact hs.2.2 e
  ·rcases hk with ⟨-, h, -⟩ | rfl | rfl | rfl <;> omega
 have hbw : Below B W (Wf.setCell ⟨b, 0, none⟩ v') := ((((Below.refl B W).drew.alloc (by show B ≤ W.drew.heap.size; show B ≤ W.heap.size; omega) _).grown G (by simp; show B ≤ W.heap.size + 1; omega) (fun k e => by have := (hown k e).1; omega)).setCell (p := ⟨b, 0, none⟩) hB v')
 refine ⟨VAt.cell VB 0, VAt.free VB 0, ?_, ⟨hbw, fun k o hk ho _ => keptS k o hk ho⟩, ⟨⟨v', ⟨⟨?_, ?_⟩, ?_, ?_⟩⟩, fun k o hk ho hc => keptS k o hk (hK k o hk ho hc)⟩, hBl.trans hbw⟩
 ·refine ((((KeepsOthers.drew W).trans (KeepsOthers.alloc _ _)).trans (KeepsOthers.of_grownBy G ?_)).trans (KeepsOthers.setCell _ _ _))
  intro j o hj ho
  rcases hW.2.2 with ⟨rfl, -⟩ | ⟨g, cap, cur, rfl, -, hg, -⟩
  ·simp [Value.ownBlock] at hj
  ·simp [Value.ownBlock] at hj
   subst hj
   rw [GA.block g (hown g rfl).2 (by simp), hg] at ho
   cases ho
   rfl
 ·exact VAt.set VB 0 v'
 ·have hv'b : v'.ownBlock ≠ some b := fun e => by have := (O.lt b e).1; omega
  have := World.ownsRow.kept O (w' := Wf.setCell ⟨b, 0, none⟩ v') (row := some b) ⟨rfl, rfl, rfl, by simp [World.setCell], fun k _ hk => Below.heap_setCell _ _ _ _ (fun e => hk (by rw [e]))⟩ (.inr hv'b)
  simpa using this
 ·refine OwnGo.trans (N' := N) hgo ?_ (Nat.le_refl _)
  rcases hat with e | e
  ·exact .inl e
  ·exact .inr ⟨_, e, by simp; show N ≤ W.heap.size + 1; omega⟩
 ·have hs1 : (W.drew.alloc (.cells #[str X] t)).heap.size = W.heap.size + 1 := by simp
  rw [hs1] at hat
  rcases hat with e | e <;> rw [e]
  ·exact hs
  ·refine ⟨?_, ?_, ?_⟩ <;> (intro h; have := Option.some.inj h; omega)
set_option maxRecDepth 100000 in
set_option maxHeartbeats 16000000 in
theorem put_any13 (B B7 b ab c : Nat) (xs ts : List (List UInt8)) (v : Value) (ne dp : Int) (w : World) (hB : B ≤ b) (hb7 : b < B7) (h7 : B7 ≤ w.heap.size) (hab : B7 ≤ ab) (habl : ab < w.heap.size) (hO : WtV w B7 b v ts ne dp) (hsep : v.ownBlock ≠ some ab) (C : CV w (some ⟨ab, 0, none⟩) (xs.map str)) (hx : xs.length ≤ 10) (hts : ts.length ≤ 1000000) :
  Calls Tryz.prog 101 #[.pointer (some ⟨b, 0, none⟩), .slice (some ⟨ab, 0, none⟩) xs.length c] w fun e w' => e = .returned (.tuple #[]) ∧ (∃ v', WtV w' B7 b v' (ts ++ xs.reverse) ne dp ∧ OwnGo w.heap.size v.ownBlock v') ∧ Kp B (fun k => k ≠ b ∧ v.ownBlock ≠ some k) w w' := by
 obtain ⟨i0, hi, hz0, hz1, hz2⟩ := info_parts wtinfo9
 refine (callsIn_wide (n := 3)).1 ?_
 refine callsIn_of_wp_marks Tryz.func101 rfl trivial ?_ rfl
 simp only [Tryz.ntmps101, List.size_toArray, List.length_cons, List.length_nil, Nat.reduceAdd, Nat.reduceSub, Array.replicate_succ, Array.replicate_zero, List.push_toArray, List.append_toArray, List.nil_append, List.cons_append]
 gi_wp2_with (refine ⟨trivial, ?_⟩; gi_at_call 131; refine (callsIn_wide.2 (back_any _ _ _ _)).mono ?_; rintro e w' ⟨rfl, rfl⟩)
 have hl2 : ((w.alloc (.cells #[.pointer (some ⟨b, 0, none⟩)] 121)).alloc (.cells #[.slice (some ⟨ab, 0, none⟩) xs.length c] 82)).heap.size = w.heap.size + 1 + 1 := by simp
 have G2 : w.grownBy ((w.alloc (.cells #[.pointer (some ⟨b, 0, none⟩)] 121)).alloc (.cells #[.slice (some ⟨ab, 0, none⟩) xs.length c] 82)) none := grown_trans (World.grownBy_alloc w _ _) (World.grownBy_alloc _ _ _)
 have fX : VAt ((w.alloc (.cells #[.pointer (some ⟨b, 0, none⟩)] 121)).alloc (.cells #[.slice (some ⟨ab, 0, none⟩) xs.length c] 82)) w.heap.size 121 #[.pointer (some ⟨b, 0, none⟩)] := VAt.kept (VAt.alloc w _ _) (World.grownBy_alloc _ _ _)
 have fS : VAt ((w.alloc (.cells #[.pointer (some ⟨b, 0, none⟩)] 121)).alloc (.cells #[.slice (some ⟨ab, 0, none⟩) xs.length c] 82)) (w.heap.size + 1) 82 #[.slice (some ⟨ab, 0, none⟩) xs.length c] := by
  have := VAt.alloc (w.alloc (.cells #[.pointer (some ⟨b, 0, none⟩)] 121)) 82 #[.slice (some ⟨ab, 0, none⟩) xs.length c]
  simpa using this
 generalize ((w.alloc (.cells #[.pointer (some ⟨b, 0, none⟩)] 121)).alloc (.cells #[.slice (some ⟨ab, 0, none⟩) xs.length c] 82)) = W2 at *
 have hO2 := hO.kept G2
 have hov : ∀ k, v.ownBlock = some k → k < w.heap.size := fun k e => (hO.2.lt k e).2
 have C2 := C.keptNone G2
 have hX : ∀ j (h : j < xs.length), W2.cell? ⟨ab, 0 + j, none⟩ = some (str xs[j]) := fun j h => by
  have := C2.2 _ rfl j (by simpa using h)
  rw [Nat.zero_add]
  have e : ((⟨ab, 0, none⟩ : Addr).add j) = ⟨ab, j, none⟩ := by unfold Addr.add; split <;> simp_all
  rw [e] at this
  simpa using this
 have hcS : W2.cell? ⟨w.heap.size + 1, 0, none⟩ = some (.slice (some ⟨ab, 0, none⟩) xs.length c) := VAt.cell fS 0
 refine wpIn_rangeFunc_ownF rfl (by omega) (gf := 162) (lb := #[.pointer (some ⟨w.heap.size + 1, 0, none⟩)]) rfl trivial (enters_of Tryz.func162 (by kernel_rfl) rfl)
  (back_stops _ (by omega) (w.heap.size + 1) ab 0 c B (KpS w.heap.size b v.ownBlock w.heap.size (w.heap.size + 1) ab) xs (by omega) (.inl (.inr (.inr (.inl rfl)))) (.inl (.inr (.inr (.inr rfl)))) W2 hcS hX)
  (fun h k => h.trans k) (Kp.book (by omega)) (Below.refl _ _) (fun _ => rfl)
  (IPut B B7 w.heap.size b v.ownBlock w.heap.size (w.heap.size + 1) ab ts ne dp W2) (fun _ _ _ => False) (iput_own _ _ _ _ _ _ _ _ _ _ _ _ _ (by omega) (by omega)) (fun _ _ _ _ _ h _ _ => h)
  ⟨⟨⟨v, by simpa using hO2, OwnGo.refl _ _, fun e => by have := hov _ e; omega, fun e => by have := hov _ e; omega, hsep⟩, fun _ _ _ h _ => h⟩, Below.refl _ _⟩
  (fun x => { tmps := #[.pointer (some ⟨b, 0, none⟩), .slice (some ⟨ab, 0, none⟩) xs.length c, .pointer (some ⟨w.heap.size, 0, none⟩), undef, undef, str x.2, .slice (some ⟨ab, 0, none⟩) xs.length c, .func (.func 162) #[] #[.pointer (some ⟨w.heap.size + 1, 0, none⟩)], .int .i64 (x.1 : Int), str x.2, undef, undef, undef, undef, undef, undef, undef, undef, undef, undef], defers := [] }) ?assign ?body ?done ?stop
 case assign =>
  intro l x W K hK
  gi_wp2
  exact hK
 case body =>
  rintro l pre ⟨i, X⟩ W ⟨⟨⟨v1, hW1, hgo1, hs1, hs2, hs3⟩, hKW⟩, hBW⟩ hlen
  have hpl : (ts ++ pre.map (·.2)).length ≤ 1000010 := by simp; omega
  have ebk : ts ++ (pre ++ [(i, X)]).map (·.2) = (ts ++ pre.map (·.2)) ++ [X] := by simp
  have post : ∀ {v' : Value} {Wa Wf : World} {t : Nat} (hWa : Wa = W.drew.alloc (.cells #[str X] t)) (O : Wf.ownsRow B7 9 1 v' ((ts ++ pre.map (·.2)).length + 1) ((ts ++ pre.map (·.2)).map str ++ [str X])) (G : Wa.grownBy Wf v1.ownBlock) (hat : v'.ownBlock = v1.ownBlock ∨ v'.ownBlock = some Wa.heap.size), _ := fun {v' Wa Wf t} hWa O G hat =>
   put_step (x := w.heap.size) (y := w.heap.size + 1) (z := ab) hB hb7 (w2 := W2) ⟨h7, by omega⟩ ⟨by omega, by omega⟩ ⟨hab, by omega⟩ (by omega) hgo1 hW1 ⟨hs1, hs2, hs3⟩ hKW hBW t hWa O G hat
  have hcx : W.cell? ⟨w.heap.size, 0, none⟩ = some (.pointer (some ⟨b, 0, none⟩)) := VAt.cell (hKW _ _ (.inr (.inl rfl)) fX rfl) 0
  have hcv := hW1.cell.1
  have hbl : b < W.heap.size := VAt.lt hW1.1
  generalize ts ++ pre.map (·.2) = us at *
  -- BODY
  have OA : (W.drew.alloc (.cells #[str X] 9)).ownsRow B7 9 1 v1 us.length (us.map str) := World.ownsRow.alloc (w := W.drew) (World.ownsRow.kept hW1.2 (w' := W.drew) (row := none) ⟨rfl, rfl, rfl, Nat.le_refl _, fun _ _ _ => rfl⟩ (by cases hv : v1.ownBlock <;> simp)) _
  have hWl : w.heap.size + 1 + 1 ≤ W.heap.size := by have := hBW.size; omega
  have hcxA : (W.drew.alloc (.cells #[str X] 9)).cell? ⟨w.heap.size, 0, none⟩ = some (.pointer (some ⟨b, 0, none⟩)) := (World.grownBy_alloc W.drew _ none).cell (show W.drew.cell? _ = _ from hcx) (by simp)
  have hcvA : (W.drew.alloc (.cells #[str X] 9)).cell? ⟨b, 0, none⟩ = some v1 := (World.grownBy_alloc W.drew _ none).cell (show W.drew.cell? _ = _ from hcv) (by simp)
  refine wpIn_block ?_
  refine region_round (S := fun W' => W'.cell? ⟨w.heap.size, 0, none⟩ = some (.pointer (some ⟨b, 0, none⟩))) (by kernel_rfl) ?hl (by kernel_rfl) hcx (fun hHeld => ?_)
  case hl =>
   rintro ⟨a, w, h⟩
   exact h
  refine wpT (i := 0) (v := .pointer (some ⟨b, 0, none⟩)) rfl (Or.inl ⟨by rfl, fun W hW => ?_⟩) hHeld ?_
  ·go_simp
  try simp only [Act.put, a0, a1, a3, a4, a5]
  refine wpT (i := 1) (v := .pointer (some ⟨b, 0, none⟩)) rfl (Or.inl ⟨by rfl, fun W hW => ?_⟩) hHeld ?_
  ·go_simp
  try simp only [Act.put, a0, a1, a2, a3, a4, a5]
  refine wpT (i := 2) (v := .pointer (some ⟨b, 0, none⟩)) rfl (Or.inl ⟨by rfl, fun W hW => ?_⟩) hHeld ?_
  ·clear hW
   go_simp
  try simp only [Act.put, a0, a1, a2, a3, a4, a5]
  refine wpT (i := 3) (v := .pointer (some ⟨b, 0, none⟩)) rfl (Or.inl ⟨by rfl, fun W hW => ?_⟩) hHeld ?_
  ·clear hW
   go_simp
  try simp only [Act.put, a0, a1, a2, a3, a4, a5]
  refine wpT (i := 5) (v := str X) rfl (Or.inl ⟨by rfl, fun W hW => ?_⟩) hHeld ?_
  ·clear hW
   go_simp
  try simp only [Act.put, a0, a1, a2, a3, a4, a5]
  refine wpR (rs := [4, 6]) (AllReadyH.cons rfl (fun K hK => ?_) (AllReadyH.cons rfl (fun K hK => ?_) AllReadyH.nil))
  ·--
   have hcv2 : W.drew.cell? ⟨b, 0, none⟩ = some v1 := hcv
   go_simp
   go_wp2_with fail
   refine hK.out _ _ hHeld (fun hHeld => ?_)
   clear hK K
   try simp only [Act.put, a0, a1, a2, a3, a4, a5]
   refine wpR (rs := [6]) (AllReadyH.cons rfl (fun K hK => ?_) AllReadyH.nil)
   go_simp
   go_wp2_with fail
   refine hK.out _ _ ?_ (fun hHeld => ?_)
   ·exact hcxA
   clear hK K
   try simp only [Act.put, a0, a1, a2, a3, a4, a5]
   refine wpR (rs := [7]) (AllReadyH.cons rfl (fun K hK => ?_) AllReadyH.nil)
   rw [if_pos (by rfl)]
   refine wp_append_at _ (.tmp 14) (.tmp 16) 82 rfl B7 9 i0 _ 1 16 Tryz.underlying82 hi hz0 hz1 hz2 rfl (by decide) v1 us.length (us.map str) rfl OA ⟨W.drew.heap.size, 0, none⟩ 1 1 [str X] rfl rfl (cell_one_new _ _ _) (by simp [Value.oneCell', str]) (by unfold maxLen; omega) (by omega) (by simp; show B7 ≤ W.heap.size + 1; omega) ?_
   intro v2 Wf O G hat
   obtain ⟨ao, n2, c2, rfl⟩ : ∃ ao n c, v2 = .slice ao n c := by rcases O.2 with ⟨rfl, -⟩ | ⟨g, cap, cur, rfl, -⟩ <;> exact ⟨_, _, _, rfl⟩
   obtain ⟨p1, p2, p3, p4, p5⟩ := post rfl O G hat
   have hcxF : Wf.cell? ⟨w.heap.size, 0, none⟩ = some (.pointer (some ⟨b, 0, none⟩)) := G.cell hcxA (fun e => hs1 e.symm)
   have hcxS : Hid ((Wf.setCell ⟨b, 0, none⟩ (.slice ao n2 c2)).cell? ⟨w.heap.size, 0, none⟩ = some (.pointer (some ⟨b, 0, none⟩))) := by show _ = _; rw [World.cell?_setCell_other _ _ _ _ (by first | (simp; done) | (simp; omega) | omega)]; exact hcxF
   refine hK.out _ _ hcxF (fun hHeld => ?_)
   clear hK K hat G O post
   try simp only [Act.put, a0, a1, a2, a3, a4, a5]
   refine wpT (i := 8) (v := .pointer (some ⟨b, 0, none⟩)) rfl (Or.inl ⟨by rfl, fun W hW => ?_⟩) hHeld ?_
   ·clear hW
    go_simp
   try simp only [Act.put, a0, a1, a2, a3, a4, a5]
   refine wpT (i := 9) (v := .pointer (some ⟨b, 0, none⟩)) rfl (Or.inl ⟨by rfl, fun W hW => ?_⟩) hHeld ?_
   ·clear hW
    go_simp
   try simp only [Act.put, a0, a1, a2, a3, a4, a5]
   refine wpR (rs := [10]) (AllReadyH.cons rfl (fun K hK => ?_) AllReadyH.nil)
   go_simp
   go_wp2_with fail
   refine hK.out _ _ hcxS.out (fun hHeld => ?_)
   clear hK K
   try simp only [Act.put, a0, a1, a2, a3, a4, a5]
   refine wpAnyH_done (by kernel_rfl) ?_ _
   have e2 := ebk
   exact ⟨p3, p4, by unfold IPut; rw [ebk]; exact p5⟩
  ·--
   go_simp
   go_wp2_with fail
   refine hK.out _ _ ?_ (fun hHeld => ?_)
   ·exact hcxA
   clear hK K
   try simp only [Act.put, a0, a1, a2, a3, a4, a5]
   refine wpR (rs := [4]) (AllReadyH.cons rfl (fun K hK => ?_) AllReadyH.nil)
   have hcv2 : (W.drew.alloc (.cells #[str X] 9)).cell? ⟨b, 0, none⟩ = some v1 := hcvA
   go_simp
   go_wp2_with fail
   refine hK.out _ _ hHeld (fun hHeld => ?_)
   clear hK K
   try simp only [Act.put, a0, a1, a2, a3, a4, a5]
   refine wpR (rs := [7]) (AllReadyH.cons rfl (fun K hK => ?_) AllReadyH.nil)
   rw [if_pos (by rfl)]
   refine wp_append_at _ (.tmp 14) (.tmp 16) 82 rfl B7 9 i0 _ 1 16 Tryz.underlying82 hi hz0 hz1 hz2 rfl (by decide) v1 us.length (us.map str) rfl OA ⟨W.drew.heap.size, 0, none⟩ 1 1 [str X] rfl rfl (cell_one_new _ _ _) (by simp [Value.oneCell', str]) (by unfold maxLen; omega) (by omega) (by simp; show B7 ≤ W.heap.size + 1; omega) ?_
   intro v2 Wf O G hat
   obtain ⟨ao, n2, c2, rfl⟩ : ∃ ao n c, v2 = .slice ao n c := by rcases O.2 with ⟨rfl, -⟩ | ⟨g, cap, cur, rfl, -⟩ <;> exact ⟨_, _, _, rfl⟩
   obtain ⟨p1, p2, p3, p4, p5⟩ := post rfl O G hat
   have hcxF : Wf.cell? ⟨w.heap.size, 0, none⟩ = some (.pointer (some ⟨b, 0, none⟩)) := G.cell hcxA (fun e => hs1 e.symm)
   have hcxS : Hid ((Wf.setCell ⟨b, 0, none⟩ (.slice ao n2 c2)).cell? ⟨w.heap.size, 0, none⟩ = some (.pointer (some ⟨b, 0, none⟩))) := by show _ = _; rw [World.cell?_setCell_other _ _ _ _ (by first | (simp; done) | (simp; omega) | omega)]; exact hcxF
   refine hK.out _ _ hcxF (fun hHeld => ?_)
   clear hK K hat G O post
   try simp only [Act.put, a0, a1, a2, a3, a4, a5]
   refine wpT (i := 8) (v := .pointer (some ⟨b, 0, none⟩)) rfl (Or.inl ⟨by rfl, fun W hW => ?_⟩) hHeld ?_
   ·clear hW
    go_simp
   try simp only [Act.put, a0, a1, a2, a3, a4, a5]
   refine wpT (i := 9) (v := .pointer (some ⟨b, 0, none⟩)) rfl (Or.inl ⟨by rfl, fun W hW => ?_⟩) hHeld ?_
   ·clear hW
    go_simp
   try simp only [Act.put, a0, a1, a2, a3, a4, a5]
   refine wpR (rs := [10]) (AllReadyH.cons rfl (fun K hK => ?_) AllReadyH.nil)
   go_simp
   go_wp2_with fail
   refine hK.out _ _ hcxS.out (fun hHeld => ?_)
   clear hK K
   try simp only [Act.put, a0, a1, a2, a3, a4, a5]
   refine wpAnyH_done (by kernel_rfl) ?_ _
   have e2 := ebk
   exact ⟨p3, p4, by unfold IPut; rw [ebk]; exact p5⟩
 case done =>
  rintro D ys W hD rfl ⟨⟨⟨v1, hW1, hgo1, -⟩, hKW⟩, hBW⟩ hK
  rw [rvL_snd] at hW1
  refine ⟨by simp, .inl ⟨_, _, rfl, run_takeDeferred hK, ?_⟩⟩
  have hDl := (Array.getElem?_eq_some_iff.1 hK).1
  have hr : ∀ r, some D = some r → ∃ o : Obj, W.heap[r]? = some o ∧ o.isCells = false := fun r e => by cases e; exact ⟨_, hK, rfl⟩
  have GP := grownBy_putObj' W D (.deferred none)
  have hWb := VAt.grown hW1.1 GP (fun e => by have := Option.some.inj e; omega)
  refine ⟨_, results_none rfl _ _ _, rfl, ⟨v1, ⟨hWb, World.ownsRow.kept hW1.2 GP (.inr (fun e => ?_))⟩, hgo1⟩, ?_, ?_⟩
  ·rcases hW1.2.2 with ⟨rfl, -⟩ | ⟨g, cap, cur, rfl, -, hg, -⟩
   ·simp [Value.ownBlock] at e
   ·simp [Value.ownBlock] at e
    subst e
    rw [hg] at hK
    cases hK
  ·exact ((below_of G2).mono (by omega)).trans (hBW.trans ((Below.refl B W).grown GP (by have := hBW.size; omega) (fun k e => by cases e; omega)))
  ·intro k o hk ho hc
   have hkl : k < w.heap.size := (Array.getElem?_eq_some_iff.1 ho).1
   rw [GP.block k (by have := hBW.size; omega) (by intro e; have := Option.some.inj e; omega)]
   exact hKW k o (.inl ⟨hkl, hk.1, hk.2⟩) ((G2.block k hkl (by simp)).trans ho) hc
 case stop =>
  rintro D c pre W hD hpre h
  exact h.elim

open Go.RowKit Go.Shelf
theorem WtV.setN {W : World} {B7 b : Nat} {v : Value} {ts : List (List UInt8)} {ne dp : Int} (h : WtV W B7 b v ts ne dp) (hb : b < B7) (i : Int) : WtV (W.setCell ⟨b, 1, none⟩ (.int .i64 i)) B7 b v ts i dp :=
 ⟨VAt.set h.1 1 _, World.ownsRow.kept h.2 (row := some b) ⟨rfl, rfl, rfl, by simp [World.setCell], fun k _ hk => Below.heap_setCell _ _ _ _ (fun e => hk (by rw [e]))⟩ (.inr (fun e => by have := (h.2.lt b e).1; omega))⟩
theorem WtV.setD {W : World} {B7 b : Nat} {v : Value} {ts : List (List UInt8)} {ne dp : Int} (h : WtV W B7 b v ts ne dp) (hb : b < B7) (i : Int) : WtV (W.setCell ⟨b, 2, none⟩ (.int .i64 i)) B7 b v ts ne i :=
 ⟨VAt.set h.1 2 _, World.ownsRow.kept h.2 (row := some b) ⟨rfl, rfl, rfl, by simp [World.setCell], fun k _ hk => Below.heap_setCell _ _ _ _ (fun e => hk (by rw [e]))⟩ (.inr (fun e => by have := (h.2.lt b e).1; omega))⟩
theorem kp_setb {B b i : Nat} {o : Option Nat} (W : World) (u : Value) (hB : B ≤ b) : Kp B (fun k => k ≠ b ∧ o ≠ some k) W (W.setCell ⟨b, i, none⟩ u) :=
 ⟨(Below.refl B W).setCell (p := ⟨b, i, none⟩) hB u, fun _ _ hk ho _ => (Below.heap_setCell _ _ _ _ hk.1).trans ho⟩
theorem kp_alloc {B : Nat} {S : Nat → Prop} (W : World) (o : Obj) (hB : B ≤ W.heap.size) : Kp B S W (W.alloc o) := Kp.none (World.grownBy_alloc W o _) hB
theorem kp_drew {B : Nat} {S : Nat → Prop} (W : World) : Kp B S W W.drew := ⟨(Below.refl B W).drew, fun _ _ _ h _ => h⟩
theorem WtV.drew {W : World} {B7 b : Nat} {v : Value} {ts : List (List UInt8)} {ne dp : Int} (h : WtV W B7 b v ts ne dp) : WtV W.drew B7 b v ts ne dp := ⟨h.1, World.ownsRow.kept h.2 (row := none) ⟨rfl, rfl, rfl, Nat.le_refl _, fun _ _ _ => rfl⟩ (by cases hv : v.ownBlock <;> simp)⟩
theorem cv_one (w : World) (x : List UInt8) (t : Nat) : CV (w.alloc (.cells #[str x] t)) (some ⟨w.heap.size, 0, none⟩) ([x].map str) := ⟨fun h => (by cases h), fun ad had j hj => by
 obtain rfl := Option.some.inj had
 exact cell_one_new w (str x) t j _ (by simp at hj; subst hj; rfl)⟩
set_option maxRecDepth 100000 in
set_option maxHeartbeats 8000000 in
theorem open_any13 (B B7 b : Nat) (x : List UInt8) (ts : List (List UInt8)) (v : Value) (ne dp : Int) (w : World) (hB : B ≤ b) (hb7 : b < B7) (h7 : B7 ≤ w.heap.size) (hO : WtV w B7 b v ts ne dp) (hts : ts.length ≤ 1000000) (hne : 0 ≤ ne ∧ ne ≤ 1000000) :
  Calls Tryz.prog 96 #[.pointer (some ⟨b, 0, none⟩), str x] w fun e w' => e = .returned (.tuple #[]) ∧ (∃ v', WtV w' B7 b v' (ts ++ [x]) (ne - 1) dp ∧ OwnGo w.heap.size v.ownBlock v') ∧ Kp B (fun k => k ≠ b ∧ v.ownBlock ≠ some k) w w' := by
 have hsep : v.ownBlock ≠ some w.heap.size := fun e => by have := (hO.2.lt _ e).2; omega
 have hw1 : IntKind.i64.wrap (ne - 1) = ne - 1 := by rw [IntKind.wrap_i64]; omega
 have hP := put_any13 B B7 b w.heap.size 1 [x] ts v ne dp (w.alloc (.cells #[str x] 9)) hB hb7 (by simp; omega) h7 (by simp) (hO.kept (World.grownBy_alloc _ _ _)) hsep (cv_one w x _) (by simp) hts
 go_enter Tryz.func96, Tryz.ntmps96
 go_wp2_with (refine hP.mono ?_; rintro e w1 ⟨rfl, ⟨v1, hW1, hgo⟩, K1⟩; have c1 := hW1.cell.2.1; have f1 := VAt.free hW1.1 1)
 have hgo' := hgo.mono (N' := w.heap.size) (by simp)
 have K1' := Kp.trans (kp_alloc w (.cells #[str x] 9) (show B ≤ w.heap.size by omega)) K1
 clear hP K1
 go_end0
 exact ⟨rfl, ⟨v1, by simpa using hW1.setN hb7 _, hgo'⟩, K1'.trans (kp_setb _ _ hB)⟩
set_option maxRecDepth 100000 in
set_option maxHeartbeats 8000000 in
theorem close_any13 (B B7 b : Nat) (x : List UInt8) (ts : List (List UInt8)) (v : Value) (ne dp : Int) (w : World) (hB : B ≤ b) (hb7 : b < B7) (h7 : B7 ≤ w.heap.size) (hO : WtV w B7 b v ts ne dp) (hts : ts.length ≤ 1000000) (hne : 0 ≤ ne ∧ ne ≤ 1000000) :
  Calls Tryz.prog 95 #[.pointer (some ⟨b, 0, none⟩), str x] w fun e w' => e = .returned (.tuple #[]) ∧ (∃ v', WtV w' B7 b v' (ts ++ [x]) (ne + 1) (max dp (ne + 1)) ∧ OwnGo w.heap.size v.ownBlock v') ∧ Kp B (fun k => k ≠ b ∧ v.ownBlock ≠ some k) w w' := by
 have hsep : v.ownBlock ≠ some w.heap.size := fun e => by have := (hO.2.lt _ e).2; omega
 have hw1 : IntKind.i64.wrap (ne + 1) = ne + 1 := by rw [IntKind.wrap_i64]; omega
 have hP := put_any13 B B7 b w.heap.size 1 [x] ts v ne dp (w.alloc (.cells #[str x] 9)) hB hb7 (by simp; omega) h7 (by simp) (hO.kept (World.grownBy_alloc _ _ _)) hsep (cv_one w x _) (by simp) hts
 go_enter Tryz.func95, Tryz.ntmps95
 go_wp2_with (refine hP.mono ?_; rintro e w1 ⟨rfl, ⟨v1, hW1, hgo⟩, K1⟩; have c1 := hW1.cell.2.1; have f1 := VAt.free hW1.1 1)
 have hgo' := hgo.mono (N' := w.heap.size) (by simp)
 have K1' := Kp.trans (kp_alloc w (.cells #[str x] 9) (show B ≤ w.heap.size by omega)) K1
 clear hP K1
 have W2 := hW1.setN hb7 (ne + 1)
 have K2 := K1'.trans (kp_setb (i := 1) w1 (.int .i64 (ne + 1)) hB)
 generalize w1.setCell ⟨b, 1, none⟩ (.int .i64 (ne + 1)) = w2 at *
 have W3 := W2.drew
 have d1 := W2.cell.2.1
 have d2 := W3.cell.2.2
 clear c1 f1 hW1
 refine wp_region_held_drew (S := fun W => W.cell? ⟨b, 1, none⟩ = some (.int .i64 (ne + 1))) (by kernel_rfl) (show w2.drew.cell? _ = _ from d1) (fun hHeld => ?_)
 refine wpT (i := 0) (v := .pointer (some ⟨b, 0, none⟩)) rfl (Or.inl ⟨by rfl, fun W hW => ?_⟩) hHeld ?_
 ·clear hW
  go_simp
 try simp only [Act.put, a0, a1, a3, a4, a5]
 refine wpT (i := 1) (v := .pointer (some ⟨b, 0, none⟩)) rfl (Or.inl ⟨by rfl, fun W hW => ?_⟩) hHeld ?_
 ·clear hW
  go_simp
 try simp only [Act.put, a0, a1, a2, a3, a4, a5]
 refine wpT (i := 2) (v := .pointer (some ⟨b, 0, none⟩)) rfl (Or.inl ⟨by rfl, fun W hW => ?_⟩) hHeld ?_
 ·clear hW
  go_simp
 try simp only [Act.put, a0, a1, a2, a3, a4, a5]
 refine wpT (i := 3) (v := .pointer (some ⟨b, 2, none⟩)) rfl (Or.inl ⟨by rfl, fun W hW => ?_⟩) hHeld ?_
 ·clear hW
  go_simp
 try simp only [Act.put, a0, a1, a2, a3, a4, a5]
 refine wpT (i := 5) (v := .pointer (some ⟨b, 0, none⟩)) rfl (Or.inl ⟨by rfl, fun W hW => ?_⟩) hHeld ?_
 ·clear hW
  go_simp
 try simp only [Act.put, a0, a1, a2, a3, a4, a5]
 refine wpT (i := 6) (v := .pointer (some ⟨b, 0, none⟩)) rfl (Or.inl ⟨by rfl, fun W hW => ?_⟩) hHeld ?_
 ·clear hW
  go_simp
 try simp only [Act.put, a0, a1, a2, a3, a4, a5]
 refine wpT (i := 7) (v := .pointer (some ⟨b, 1, none⟩)) rfl (Or.inl ⟨by rfl, fun W hW => ?_⟩) hHeld ?_
 ·clear hW
  go_simp
 try simp only [Act.put, a0, a1, a2, a3, a4, a5]
 refine wpT (i := 8) (v := .int .i64 (ne + 1)) rfl (Or.inl ⟨by rfl, fun W hW => ?_⟩) hHeld ?_
 ·go_simp
 try simp only [Act.put, a0, a1, a2, a3, a4, a5]
 refine wpR (rs := [4]) (AllReadyH.cons rfl (fun K hK => ?_) AllReadyH.nil)
 go_simp
 go_wp2_with fail
 refine hK.out _ _ hHeld (fun hHeld => ?_)
 clear hK K
 try simp only [Act.put, a0, a1, a2, a3, a4, a5]
 refine wpT (i := 9) (v := .int .i64 (max dp (ne + 1))) rfl (Or.inl ⟨by rfl, fun W hW => ?_⟩) hHeld ?_
 ·clear hW
  go_simp
 try simp only [Act.put, a0, a1, a2, a3, a4, a5]
 refine wpT (i := 10) (v := .pointer (some ⟨b, 0, none⟩)) rfl (Or.inl ⟨by rfl, fun W hW => ?_⟩) hHeld ?_
 ·clear hW
  go_simp
 try simp only [Act.put, a0, a1, a2, a3, a4, a5]
 refine wpT (i := 11) (v := .pointer (some ⟨b, 2, none⟩)) rfl (Or.inl ⟨by rfl, fun W hW => ?_⟩) hHeld ?_
 ·clear hW
  go_simp
 try simp only [Act.put, a0, a1, a2, a3, a4, a5]
 have e2 := VAt.free W3.1 2
 refine wpR (rs := [12]) (AllReadyH.cons rfl (fun K hK => ?_) AllReadyH.nil)
 go_simp
 go_wp2_with fail
 refine hK.out _ _ (W3.setD hb7 _).cell.2.1 (fun hHeld => ?_)
 clear hK K
 try simp only [Act.put, a0, a1, a2, a3, a4, a5]
 refine wpAnyH_done (by kernel_rfl) ?_ _
 go_wp2
 go_end0
 exact ⟨rfl, ⟨v1, W3.setD hb7 _, hgo'⟩, (K2.trans (kp_drew _)).trans (kp_setb _ _ hB)⟩

open Go.RowKit Go.Shelf
theorem inter_nil (xs : List (List UInt8)) : ([] : List UInt8).intercalate xs = xs.flatten := by
 unfold List.intercalate
 induction xs with
 | nil => rfl
 | cons x r ih =>
  cases r with
  | nil => simp
  | cons y r => simp at ih ⊢; exact ih
theorem setCells_size (g : Nat) : ∀ (vs : List Value) (o : Nat) (w : World), (w.setCells g o vs).heap.size = w.heap.size
 | [], _, _ => rfl
 | v :: r, o, w => by rw [World.setCells, setCells_size g r]; simp [World.setCell]
theorem below_setCells {B g : Nat} (hg : B ≤ g) : ∀ (vs : List Value) (o : Nat) (w : World), Below B w (w.setCells g o vs)
 | [], _, w => Below.refl B w
 | v :: r, o, w => ((Below.refl B w).setCell (p := ⟨g, o, none⟩) hg v).trans (below_setCells hg r (o + 1) _)
set_option maxRecDepth 100000 in
set_option maxHeartbeats 4000000 in
theorem text_any13 (M B7 b : Nat) (ts : List (List UInt8)) (v : Value) (ne dp : Int) (w : World) (hgb : v.ownBlock ≠ some b) (hM : M ≤ B7) (hO : WtV w B7 b v ts ne dp) (h0 : ts ≠ []) (hts : ts.length ≤ 1000000) (hl : ts.reverse.flatten.length ≤ 100000000) :
  Calls Tryz.prog 46 #[.pointer (some ⟨b, 0, none⟩)] w fun e w' => e = .returned (.string ⟨ts.reverse.flatten.toArray⟩) ∧ Below M w w' := by
 have hc := hO.cell.1
 obtain ⟨g, cap, hv, hnc, hcm, hbg, hgl⟩ : ∃ g cap, v = .slice (some ⟨g, 0, none⟩) ts.length cap ∧ ts.length ≤ cap ∧ cap ≤ maxLen ∧ B7 ≤ g ∧ g < w.heap.size := owns_head hO.2 (List.length_pos_iff.2 h0)
 subst hv
 have hgb' : b ≠ g := fun e => hgb (by rw [e]; rfl)
 have hg : ∀ i, i < ts.length → w.cell? ⟨g, 0 + i, none⟩ = some (.string ((fun i => (⟨(ts.getD i []).toArray⟩ : ByteArray)) i)) := fun i h => by
  have := World.ownsRow.cellAt hO.2 i (by omega)
  rw [Nat.zero_add, this]
  simp [List.getD, h, str]
 have hf : ∀ j, j < ts.length → w.frozen? ⟨g, 0 + j, none⟩ = false := fun j _ => World.ownsRow.frozenAt hO.2 (0 + j)
 have hvs : ∀ n, n = ts.length → (Lib.strsOf (fun i => (⟨(ts.getD i []).toArray⟩ : ByteArray)) n).reverse.map encStr = ts.reverse.map str := fun n hn => by
  have e : Lib.strsOf (fun i => (⟨(ts.getD i []).toArray⟩ : ByteArray)) n = ts := by
   unfold Lib.strsOf
   apply List.ext_getElem
   ·simp [hn]
   ·intro i h1 h2
    simp [List.getD, h2]
  rw [e]
 have hR := (Tryz.slices_Reverse_string_cells g 0 ts.length cap _ w (by unfold maxLen at hcm; omega) hg hf).mono (R' := fun e w' => e = .returned (.tuple #[]) ∧ w'.cell? ⟨b, 0, none⟩ = some (.slice (some ⟨g, 0, none⟩) ts.length cap) ∧ Below M w w' ∧ g < w'.heap.size ∧ ∀ j x, ts.reverse[j]? = some x → w'.cell? ⟨g, 0 + j, none⟩ = some (str x)) (by
  rintro e w' ⟨rfl, q, rfl⟩
  rw [hvs _ rfl]
  refine ⟨rfl, ?_, (show Below M w (w.drewN q) from ⟨rfl, rfl, rfl, Nat.le_refl _, fun _ _ => rfl⟩).trans (below_setCells (by omega) _ _ _), ?_, fun j x hj => ?_⟩
  ·rw [World.cell?_setCells_out g _ 0 _ _ (fun e => by simp at e; exact absurd e hgb')]
   exact hc
  ·rw [setCells_size]
   exact hgl
  ·obtain ⟨hj1, rfl⟩ := List.getElem?_eq_some_iff.1 hj
   rw [World.cell?_setCells_in g (ts.reverse.map str) 0 (w.drewN q) (fun i hi => ?_) j (by simpa using hj1)]
   ·simp
   ·have := hg i (by simpa using hi)
    rw [show (w.drewN q).cell? ⟨g, 0 + i, none⟩ = w.cell? ⟨g, 0 + i, none⟩ from rfl, this]
    rfl)
 have hJ : ∀ W : World, g < W.heap.size → (∀ j x, ts.reverse[j]? = some x → W.cell? ⟨g, 0 + j, none⟩ = some (str x)) → Calls Tryz.prog 105 #[.slice (some ⟨g, 0, none⟩) ts.length cap, .string ⟨#[]⟩] W fun e w' => e = .returned (.string ⟨ts.reverse.flatten.toArray⟩) ∧ Below M W w' := fun W hgW hcs => by
  have ej : Lib.join ((ts.reverse.map (fun x => (⟨x.toArray⟩ : ByteArray))).map (·.data.toList)) (⟨#[]⟩ : ByteArray).data.toList = ts.reverse.flatten := by
   unfold Lib.join
   rw [show (⟨#[]⟩ : ByteArray).data.toList = [] from rfl, inter_nil, List.map_map]
   simp [Function.comp_def]
  have h := Tryz.strings_Join g 0 cap (ts.reverse.map (fun x => (⟨x.toArray⟩ : ByteArray))) ⟨#[]⟩ W (fun j x hx => by
   rw [List.getElem?_map] at hx
   cases hr : ts.reverse[j]? with
   | none => rw [hr] at hx; cases hx
   | some y =>
    rw [hr] at hx
    cases hx
    exact hcs j y hr) hgW (by simp; omega) (by simpa using hnc) (by rw [ej]; omega)
  rw [ej, show (ts.reverse.map (fun x => (⟨x.toArray⟩ : ByteArray))).length = ts.length by simp] at h
  exact h.mono (fun e w' hh => ⟨hh.1, hh.2.mono (by omega)⟩)
 clear hg hf hvs
 go_enter Tryz.func46, Tryz.ntmps46
 go_wp2_with (first | (refine hR.mono ?_; rintro e w1 ⟨rfl, k1, kb, k2, k3⟩) | (refine (hJ _ k2 k3).mono ?_; rintro e w2 ⟨rfl, kc⟩))
 go_ret
 exact ⟨rfl, kb.trans kc⟩

end Go.Proofs.YtklipelnjgpnjaaGreatDoor
