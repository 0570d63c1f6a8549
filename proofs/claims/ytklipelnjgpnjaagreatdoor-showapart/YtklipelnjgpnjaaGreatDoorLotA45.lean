import Derived.Test.YtklipelnjgpnjaaGreatDoorLotA44
import Derived.Test.YtklipelnjgpnjaaGreatDoorLotA24
import Derived.Test.YtklipelnjgpnjaaGreatDoorLotA25
import Derived.Test.YtklipelnjgpnjaaGreatDoorLotA21
import Derived.Test.YtklipelnjgpnjaaGreatDoorLotA10
import Derived.Test.YtklipelnjgpnjaaGreatDoorLotA1
import Derived.Test.YtklipelnjgpnjaaGreatDoorRows
import Derived.ProofKit
import Derived.OpenShut
import Derived.ShutString
import Derived.ChangeOld
import Derived.SizedLaws
import Derived.JoinedCond
import Derived.Test.YtklipelnjgpnjaaGreatDoorLotA9
import Derived.Deep.Slices
import Derived.Test.YtklipelnjgpnjaaGreatDoorLotA43
namespace Go.Proofs.YtklipelnjgpnjaaGreatDoor
open Go.RowKit
set_option maxRecDepth 100000
theorem tree_parse (full : Bool) {T : Tr} (hg : T.Good) (hd : (T.txt full).2 ≤ 200) {A : List Tk} {e : Tk} (he : e.kind = 0) (hA : A.map Tk.ky = T.ky full) : ∃ ns, parseT (A ++ [e]) = .ok ns ∧ ns.map (·.1.g) = T.flat := by
 obtain ⟨F, ns, h1, h2⟩ := (tree_read full T hg).1 1 0 A [e] (Nat.le_refl _) row_ge (by omega) hA (stop_b (stop_end he []))
 refine ⟨ns, ?_, h2⟩
 have h3 := more_row (Nat.le_max_left F (needF 1 (A ++ [e]))) h1
 have h4 := row_more (Nat.le_max_right F (needF 1 (A ++ [e]))) (row_told _ 1 0 _ (by decide) (Nat.le_refl _))
 unfold parseT
 rw [← h4, h3, thenE_ok]
 exact if_pos he
theorem LexS.cast {s s' : List UInt8} {ks ks' : List Ky} {c : List UInt8 → Prop} (h : LexS s ks c) (hs : s = s') (hk : ks = ks') : LexS s' ks' c := by
 subst hs hk
 exact h
theorem lexs_sp {s : List UInt8} {ks : List Ky} (h : LexS s ks EndS) : LexS (s ++ [32]) ks (fun _ => True) :=
 (h.app lexs_blank (fun r _ => end_b (b := 32) (by decide) r)).cast rfl (List.append_nil _)
theorem name_tok {k : Int} (h : 1 ≤ k ∧ k ≤ 13) : tokV (nameT k) = .ok (2, nameT k, 0) := by
 have : k = 1 ∨ k = 2 ∨ k = 3 ∨ k = 4 ∨ k = 5 ∨ k = 6 ∨ k = 7 ∨ k = 8 ∨ k = 9 ∨ k = 10 ∨ k = 11 ∨ k = 12 ∨ k = 13 := by omega
 rcases this with rfl | rfl | rfl | rfl | rfl | rfl | rfl | rfl | rfl | rfl | rfl | rfl | rfl <;> rfl
theorem side_lex {k : Int} : LexS (sideT k) (sideK k) (fun _ => True) := by
 unfold sideT sideK
 by_cases h1 : k = 1
 ·rw [if_pos h1, if_pos h1]
  exact lexs_sp (lexs_wordS (x := wSrc) rfl)
 ·rw [if_neg h1, if_neg h1]
  by_cases h2 : k = 2
  ·rw [if_pos h2, if_pos h2]
   exact lexs_sp (lexs_wordS (x := wDst) rfl)
  ·rw [if_neg h2, if_neg h2]
   exact lexs_nil
theorem adr_lex {x : Ng} (hl : x.addr.length = 16) : LexS (adrT x) [kA x] EndS := by
 have hid := adgs_id hl
 refine lexs_tok (k := kA x) fun r hr => ?_
 have h : tokV (kA x).2.1 = .ok ((kA x).1, (kA x).2.1, (kA x).2.2) := by
  unfold kA adrT
  by_cases h3 : x.of = 3
  ·rw [if_pos h3, if_pos h3]
   exact sptok_six (pairs_len 8 _ (by rw [hid, hl]))
  ·rw [if_neg h3, if_neg h3]
   exact tok_four (by rw [List.length_take, hid, hl]; rfl)
 exact (tok_s (tok_ok h).1 hr).trans h
def NumN (x : Ng) : Prop := x.n ≤ 4294967295 ∧ x.m ≤ 4294967295
theorem leaf_lex {x : Ng} (ha : arG x.kind = some 0) (hg : GoodN x) (hn : NumN x) : LexS (leafT x) (leafK x) EndS ∧ (truthG x.kind = false → LexS (leafT x) (leafK x) EndC) := by
 obtain ⟨hf, hr, hl⟩ := hg
 obtain ⟨-, -, hm⟩ := form_use hf hl
 obtain ⟨g1, g2, g3, g4, g5, g6, -⟩ := form_node hf hr
 have hk : x.kind = 1 ∨ x.kind = 2 ∨ x.kind = 10 ∨ x.kind = 11 ∨ x.kind = 12 ∨ x.kind = 13 ∨ x.kind = 14 ∨ x.kind = 15 ∨ x.kind = 16 := by
  rcases arG_cases ha with ⟨h1, -⟩ | ⟨h1, -⟩ | ⟨-, h1⟩
  ·cases h1
  ·cases h1
  ·exact h1
 have ht : 6 ≤ x.kind → truthG x.kind = false → LexS (leafT x) (leafK x) EndC := fun h h2 => by
  unfold truthG at h2
  exact absurd h (of_decide_eq_false h2)
 have hall : ∀ {s ks}, LexS s ks (fun _ => True) → LexS s ks EndS := fun h => h.mono fun _ _ => trivial
 rcases hk with hk | hk | hk | hk | hk | hk | hk | hk | hk
 ·have h : LexS (leafT x) (leafK x) EndC := by
   rw [show leafT x = dec x.n by unfold leafT; rw [hk]; rfl, show leafK x = [kN x.n] by unfold leafK; rw [hk]; rfl]
   exact lexs_dec hn.1
  exact ⟨h.mono fun _ => end_c, fun _ => h⟩
 ·have h : LexS (leafT x) (leafK x) EndC := by
   rw [show leafT x = wLen by unfold leafT; rw [hk]; rfl, show leafK x = [kW wLen] by unfold leafK; rw [hk]; rfl]
   exact lexs_word (x := wLen) rfl (by decide)
  exact ⟨h.mono fun _ => end_c, fun _ => h⟩
 ·refine ⟨?_, ht (by omega)⟩
  rw [show leafT x = if x.side = 1 then wInbound else wOutbound by unfold leafT; rw [hk]; rfl, show leafK x = [kW (if x.side = 1 then wInbound else wOutbound)] by unfold leafK; rw [hk]; rfl]
  split
  ·exact lexs_wordS (x := wInbound) rfl
  ·exact lexs_wordS (x := wOutbound) rfl
 ·have hof := in_le (show inG x.of 2 13 = true by unfold mayG at hm; rw [hk] at hm; exact hm)
  refine ⟨?_, ht (by omega)⟩
  rw [show leafT x = nameT x.of by unfold leafT; rw [hk]; rfl, show leafK x = [kW (nameT x.of)] by unfold leafK; rw [hk]; rfl]
  exact lexs_wordS (name_tok ⟨by omega, by omega⟩)
 ·refine ⟨?_, ht (by omega)⟩
  rw [show leafT x = [112, 114, 111, 116, 111, 32] ++ dec x.n by unfold leafT; rw [hk]; rfl, show leafK x = [kW wProto, kN x.n] by unfold leafK; rw [hk]; rfl]
  exact ((lexs_sp (lexs_wordS (x := wProto) rfl)).app (lexs_dec hn.1) (fun _ _ => trivial)).mono fun _ => end_c
 ·have hof := in_le (show inG x.of 2 3 = true by unfold mayG at hm; rw [hk] at hm; exact hm)
  refine ⟨?_, ht (by omega)⟩
  rw [show leafT x = nameT x.of ++ [32, 112, 114, 111, 116, 111, 32] ++ dec x.n by unfold leafT; rw [hk]; rfl, show leafK x = [kW (nameT x.of), kW wProto, kN x.n] by unfold leafK; rw [hk]; rfl]
  refine LexS.cast (((lexs_sp (lexs_wordS (name_tok ⟨by omega, by omega⟩))).app (lexs_sp (lexs_wordS (x := wProto) rfl)) (fun _ _ => trivial)).app ((lexs_dec hn.1).mono fun _ => end_c) (fun _ _ => trivial)) ?_ rfl
  simp [wProto]
 ·refine ⟨?_, ht (by omega)⟩
  rw [show leafT x = sideT x.side ++ [104, 111, 115, 116, 32] ++ adrT x by unfold leafT; rw [hk]; rfl, show leafK x = sideK x.side ++ [kW wHost, kA x] by unfold leafK; rw [hk]; rfl]
  refine LexS.cast (((side_lex (k := x.side)).app (lexs_sp (lexs_wordS (x := wHost) rfl)) (fun _ _ => trivial)).app (adr_lex hl) (fun _ _ => trivial)) ?_ (by simp)
  simp [wHost]
 ·refine ⟨?_, ht (by omega)⟩
  rw [show leafT x = sideT x.side ++ [110, 101, 116, 32] ++ adrT x ++ [47] ++ dec x.bits.toNat by unfold leafT; rw [hk]; rfl, show leafK x = sideK x.side ++ [kW wNet, kA x, kS [47], kN x.bits.toNat] by unfold leafK; rw [hk]; rfl]
  refine LexS.cast (((((side_lex (k := x.side)).app (lexs_sp (lexs_wordS (x := wNet) rfl)) (fun _ _ => trivial)).app (adr_lex hl) (fun _ _ => trivial)).app lexs_slash (fun r _ => end_b (b := 47) (by decide) r)).app ((lexs_dec (n := x.bits.toNat) (by omega)).mono fun _ => end_c) (fun _ _ => trivial)) ?_ (by simp)
  simp [wNet]
 ·have hof : x.of = 0 ∨ x.of = 4 ∨ x.of = 5 := by
   unfold mayG at hm
   rw [hk] at hm
   have h1 := (Bool.and_eq_true_iff.1 (show ((x.of == 0 || inG x.of 4 5) && inG x.side 0 2) = true from hm)).1
   rcases Bool.or_eq_true_iff.1 h1 with h2 | h2
   ·exact .inl (by simpa using h2)
   ·have := in_le h2
    omega
  refine ⟨?_, ht (by omega)⟩
  rw [show leafT x = (if x.of = 0 then [] else nameT x.of ++ [32]) ++ sideT x.side ++ (if x.n = x.m then [112, 111, 114, 116, 32] ++ dec x.n else [112, 111, 114, 116, 114, 97, 110, 103, 101, 32] ++ dec x.n ++ [45] ++ dec x.m) by unfold leafT; rw [hk]; rfl, show leafK x = (if x.of = 0 then [] else [kW (nameT x.of)]) ++ sideK x.side ++ (if x.n = x.m then [kW wPort, kN x.n] else [kW wPortrange, kN x.n, kS [45], kN x.m]) by unfold leafK; rw [hk]; rfl]
  have hN : LexS (if x.of = 0 then [] else nameT x.of ++ [32]) (if x.of = 0 then [] else [kW (nameT x.of)]) (fun _ => True) := by
   by_cases h0 : x.of = 0
   ·rw [if_pos h0, if_pos h0]; exact lexs_nil
   ·rw [if_neg h0, if_neg h0]; exact lexs_sp (lexs_wordS (name_tok ⟨by omega, by omega⟩))
  refine (hN.app side_lex (fun _ _ => trivial)).app ?_ (fun _ _ => trivial)
  by_cases hnm : x.n = x.m
  ·rw [if_pos hnm, if_pos hnm]
   exact ((lexs_sp (lexs_wordS (x := wPort) rfl)).app (lexs_dec hn.1) (fun _ _ => trivial)).mono fun _ => end_c
  ·rw [if_neg hnm, if_neg hnm]
   exact ((((lexs_sp (lexs_wordS (x := wPortrange) rfl)).app (lexs_dec hn.1) (fun _ _ => trivial)).app lexs_minus (fun r _ => end_c (end_b (b := 45) (by decide) r))).app (lexs_dec hn.2) (fun _ _ => trivial)).mono fun _ => end_c
theorem sign_lex {x : Ng} (h : arG x.kind = some 2) (hg : GoodN x) : LexS (signT x) [signK x] EndS := by
 obtain ⟨hf, hr, hl⟩ := hg
 obtain ⟨-, -, hm⟩ := form_use hf hl
 have hk : x.kind = 4 ∨ x.kind = 6 ∨ x.kind = 7 ∨ x.kind = 8 := by
  rcases arG_cases h with ⟨h1, -⟩ | ⟨-, h1⟩ | ⟨h1, -⟩
  ·cases h1
  ·exact h1
  ·cases h1
 rcases hk with hk | hk | hk | hk
 ·have ho := in_le (show inG x.op 1 10 = true by unfold mayG at hm; rw [hk] at hm; exact hm)
  rw [show signT x = opT13 x.op by unfold signT; rw [hk]; rfl, show signK x = kS (opT13 x.op) by unfold signK; rw [hk]; rfl]
  refine lexs_sign ?_
  have : x.op = 1 ∨ x.op = 2 ∨ x.op = 3 ∨ x.op = 4 ∨ x.op = 5 ∨ x.op = 6 ∨ x.op = 7 ∨ x.op = 8 ∨ x.op = 9 ∨ x.op = 10 := by omega
  rcases this with e | e | e | e | e | e | e | e | e | e <;> rw [e] <;> rfl
 ·have ho := in_le (show inG x.op 1 6 = true by unfold mayG at hm; rw [hk] at hm; exact hm)
  rw [show signT x = relT x.op by unfold signT; rw [hk]; rfl, show signK x = kS (relT x.op) by unfold signK; rw [hk]; rfl]
  refine lexs_sign ?_
  have : x.op = 1 ∨ x.op = 2 ∨ x.op = 3 ∨ x.op = 4 ∨ x.op = 5 ∨ x.op = 6 := by omega
  rcases this with e | e | e | e | e | e <;> rw [e] <;> rfl
 ·rw [show signT x = wAnd by unfold signT; rw [hk]; rfl, show signK x = kW wAnd by unfold signK; rw [hk]; rfl]
  exact lexs_wordS (x := wAnd) rfl
 ·rw [show signT x = wOr by unfold signT; rw [hk]; rfl, show signK x = kW wOr by unfold signK; rw [hk]; rfl]
  exact lexs_wordS (x := wOr) rfl
theorem put_lex {want : Bool} {s : List UInt8} {d : Nat} {ks : List Ky} {c : List UInt8 → Prop} (h : LexS s ks EndS) (h2 : LexS s ks c) : LexS (putT want (s, d)).1 (putK want ks) c := by
 cases want with
 | false => exact h2
 | true =>
  exact (((lexs_lp.app h (fun _ _ => trivial)).app lexs_rp (fun r _ => end_b (b := 41) (by decide) r)).mono (fun _ _ => trivial)).cast rfl (by simp [putK])
theorem tok_colon {d : UInt8} (hd : d ∈ [50, 51, 52]) (r : List UInt8) : tokV ([58] ++ d :: 93 :: r) = .ok (5, [58], 0) := by
 simp only [List.mem_cons, List.not_mem_nil, or_false] at hd
 rcases hd with rfl | rfl | rfl <;> rfl
theorem size_lex {n : Int} (h : 1 ≤ n ∧ n ≤ 4) : LexS (sizeT n ++ [93]) (sizeK n ++ [kS [93]]) (fun _ => True) := by
 have key : ∀ (m : Nat) (d : UInt8), dec m = [d] → d ∈ [50, 51, 52] → m ≤ 4294967295 → LexS ([58] ++ dec m ++ [93]) [kS [58], kN m, kS [93]] (fun _ => True) := fun m d hm hd hl => by
  have h1 : LexS [58] [kS [58]] (fun r => ∃ r', r = d :: 93 :: r') := lexs_tok (k := kS [58]) fun r hr => by
   obtain ⟨r', rfl⟩ := hr
   exact tok_colon hd r'
  have h2 := (lexs_dec hl).app lexs_rb (fun r _ => end_c (end_b (b := 93) (by decide) r))
  exact (h1.app h2 (fun r _ => ⟨r, by rw [hm]; rfl⟩)).cast (by simp) rfl
 have : n = 1 ∨ n = 2 ∨ n = 3 ∨ n = 4 := by omega
 rcases this with rfl | rfl | rfl | rfl
 ·exact lexs_rb
 ·exact key 2 50 (by decide) (by decide) (by decide)
 ·exact key 3 51 (by decide) (by decide) (by decide)
 ·exact key 4 52 (by decide) (by decide) (by decide)
theorem size_end {n : Int} (h : 1 ≤ n ∧ n ≤ 4) (r : List UInt8) : EndC (sizeT n ++ [93] ++ r) := by
 have : n = 1 ∨ n = 2 ∨ n = 3 ∨ n = 4 := by omega
 rcases this with rfl | rfl | rfl | rfl
 ·exact end_c (end_b (b := 93) (by decide) r)
 ·exact .inr ⟨50, r, rfl, by decide⟩
 ·exact .inr ⟨51, r, rfl, by decide⟩
 ·exact .inr ⟨52, r, rfl, by decide⟩
theorem tree_lex (full : Bool) : ∀ T : Tr, T.Good → T.Typed → (∀ x ∈ T.flat, NumN x) → LexS (T.txt full).1 (T.ky full) EndS ∧ (truthG T.root.kind = false → LexS (T.txt full).1 (T.ky full) EndC)
 | .leaf x, hg, _, hn => leaf_lex hg.1 (hg.2 x (by simp [Tr.flat])) (hn x (by simp [Tr.flat]))
 | .one x p, hg, hty, hn => by
  obtain ⟨h1, hx, hp⟩ := hg.one
  obtain ⟨tp, tx⟩ : p.Typed ∧ truthG p.root.kind = wantsG x.kind := hty
  obtain ⟨ih1, ih2⟩ := tree_lex full p hp tp (fun y hy => hn y (by simp [Tr.flat, hy]))
  obtain ⟨hf, hr, hl⟩ := hx
  obtain ⟨-, -, hm⟩ := form_use hf hl
  rw [Tr.txt, Tr.ky]
  show _ ∧ (truthG x.kind = false → _)
  rcases row_one h1 with ⟨hk, -⟩ | ⟨hk, -⟩ | ⟨hk, -⟩
  ·have hof := in_le (show inG x.of 1 12 = true by unfold mayG at hm; rw [hk] at hm; exact hm)
   have hsz := (form_node hf hr).2.2.2.2.2.2.2.1 hk
   have hpC := ih2 (by rw [tx, hk]; rfl)
   rw [if_pos hk, if_pos hk]
   have h : LexS (nameT x.of ++ [91] ++ (p.txt full).1 ++ sizeT x.size ++ [93]) (kW (nameT x.of) :: kS [91] :: (p.ky full ++ (sizeK x.size ++ [kS [93]]))) (fun _ => True) := by
    have h1 := (lexs_wordS (name_tok (k := x.of) ⟨by omega, by omega⟩)).app lexs_lb (fun r _ => end_b (b := 91) (by decide) r)
    have h2 := h1.app hpC (fun _ _ => trivial)
    exact (h2.app (size_lex hsz) (fun r _ => size_end hsz r)).cast (by simp) (by simp)
   exact ⟨h.mono fun _ _ => trivial, fun _ => h.mono fun _ _ => trivial⟩
  ·rw [if_neg (by omega), if_neg (by omega), if_neg (by omega), if_neg (by omega)]
   have hpC := ih2 (by rw [tx, hk]; rfl)
   have h : LexS ([45] ++ (putT (wantT full (rowG p.root) (rowG x)) (p.txt full)).1) (kS [45] :: putK (wantT full (rowG p.root) (rowG x)) (p.ky full)) EndC := lexs_minus.app (put_lex ih1 hpC) (fun _ _ => trivial)
   exact ⟨h.mono fun _ => end_c, fun _ => h⟩
  ·rw [if_neg (by omega), if_pos hk, if_neg (by omega), if_pos hk]
   exact ⟨(lexs_sp (lexs_wordS (x := wNot) rfl)).app (put_lex ih1 ih1) (fun _ _ => trivial), fun h => by rw [hk] at h; cases h⟩
 | .two x p q, hg, hty, hn => by
  obtain ⟨h1, hx, hp, hq⟩ := hg.two
  obtain ⟨tp, tq, tx, ty⟩ : p.Typed ∧ q.Typed ∧ truthG p.root.kind = wantsG x.kind ∧ truthG q.root.kind = wantsG x.kind := hty
  obtain ⟨ip1, -⟩ := tree_lex full p hp tp (fun y hy => hn y (by simp [Tr.flat, hy]))
  obtain ⟨iq1, iq2⟩ := tree_lex full q hq tq (fun y hy => hn y (by simp [Tr.flat, hy]))
  rw [Tr.txt, Tr.ky]
  show _ ∧ (truthG x.kind = false → _)
  have key : ∀ c : List UInt8 → Prop, LexS (q.txt full).1 (q.ky full) c → LexS ((putT (wantT full (rowG p.root) (if rowG x = 4 then 5 else rowG x)) (p.txt full)).1 ++ [32] ++ signT x ++ [32] ++ (putT (wantT full (rowG q.root) (rowG x + 1)) (q.txt full)).1)
    (putK (wantT full (rowG p.root) (if rowG x = 4 then 5 else rowG x)) (p.ky full) ++ signK x :: putK (wantT full (rowG q.root) (rowG x + 1)) (q.ky full)) c := fun c hc => by
   have h1' := lexs_sp (put_lex (want := wantT full (rowG p.root) (if rowG x = 4 then 5 else rowG x)) (d := (p.txt full).2) ip1 ip1)
   have h2 := lexs_sp (sign_lex h1 hx)
   have h3 := put_lex (want := wantT full (rowG q.root) (rowG x + 1)) (d := (q.txt full).2) iq1 hc
   exact ((h1'.app h2 (fun _ _ => trivial)).app h3 (fun _ _ => trivial)).cast (by simp) (by simp)
  refine ⟨key _ iq1, fun h => key _ (iq2 ?_)⟩
  rw [ty]
  rcases row_two h1 with ⟨hk, -⟩ | ⟨hk, -⟩ | ⟨hk, -⟩ | ⟨hk, -⟩
  ·rw [hk] at h; cases h
  ·rw [hk] at h; cases h
  ·rw [hk] at h; cases h
  ·rw [hk]; rfl
theorem text_parse (full : Bool) {T : Tr} (hg : T.Good) (ht : T.Typed) (hn : ∀ x ∈ T.flat, NumN x) (hd : (T.txt full).2 ≤ 200) (hl : (T.txt full).1.length ≤ 65536) : ∃ ns, parseV (T.txt full).1 = .ok ns ∧ ns.map (·.1.g) = T.flat := by
 obtain ⟨A, h1, h2⟩ := (tree_lex full T hg ht hn).1 0 [] [⟨0, 0 + (T.txt full).1.length, [], 0⟩] (.inl rfl) rfl
 rw [List.append_nil] at h1
 obtain ⟨ns, h3, h4⟩ := tree_parse full hg hd (e := ⟨0, 0 + (T.txt full).1.length, [], 0⟩) rfl h2
 refine ⟨ns, ?_, h4⟩
 unfold parseV lexV
 rw [if_neg (by omega), h1, thenE_ok, h3]
theorem print4_len13 (xs : List UInt8) (h : xs.length = 4) : (print4V xs).length ≤ 84 := by
 have := join_len 46 (xs.map fun x => dec x.toNat) 20 (fun l hl => by
  obtain ⟨y, -, rfl⟩ := List.mem_map.1 hl
  exact dec_len _)
 rw [List.length_map, h] at this
 exact this
theorem adrT_len84 (x : Ng) : (adrT x).length ≤ 84 := by
 unfold adrT
 split
 ·have := print6_len (pairsG (adgs x)) (pairs_len 8 _ (adgs_len x))
  omega
 ·exact print4_len13 _ (by rw [List.length_take, adgs_len]; rfl)
set_option maxHeartbeats 4000000 in
theorem leaf_weight {x : Ng} (ha : arG x.kind = some 0) : (leafT x).length + 1 ≤ 21 * weighG x := by
 have h1 := dec_len x.n
 have h2 := dec_len x.m
 have h3 := dec_len x.bits.toNat
 have h4 := adrT_len84 x
 have h5 := side_len x.side
 have h6 := name_len x.of
 rcases arG_cases ha with ⟨e, -⟩ | ⟨e, -⟩ | ⟨-, hk⟩
 ·cases e
 ·cases e
 ·clear ha
  unfold leafT weighG
  repeat' split
  all_goals
   try simp only [List.length_append, List.length_cons, List.length_nil]
   omega
theorem weight_app (a b : List Ng) : weightG (a ++ b) = weightG a + weightG b := by unfold weightG; simp
theorem weight_one (x : Ng) : weightG [x] = weighG x := by unfold weightG; simp
set_option maxHeartbeats 4000000 in
theorem weigh_pos {x : Ng} {a : Nat} (h : arG x.kind = some a) : 1 ≤ weighG x := by
 have hk := arG_cases h
 clear h
 unfold weighG
 repeat' split
 all_goals omega
theorem txt_weight (full : Bool) : ∀ {T : Tr}, T.Wf → (T.txt full).1.length + 1 ≤ 21 * weightG T.flat
 | .leaf x, hw => by
  show (leafT x).length + 1 ≤ 21 * weightG [x]
  rw [weight_one]
  exact leaf_weight hw
 | .one x p, hw => by
  have h1 := txt_weight full hw.2
  have hf : weightG (Tr.one x p).flat = weightG p.flat + weighG x := by show weightG (p.flat ++ [x]) = _; rw [weight_app, weight_one]
  have hn := name_len x.of
  have hs := sizeT_len x.size
  have hp1 := weigh_pos hw.1
  rw [hf, Tr.txt]
  split
  ·rename_i hk
   have : weighG x = 24 := by unfold weighG; rw [if_neg (by omega), if_neg (by omega), if_pos hk]
   simp only [List.length_append, List.length_cons, List.length_nil]
   omega
  ·have hp := put_len (wantT full (rowG p.root) (rowG x)) (p.txt full)
   have hq : ((if x.kind = 9 then [110, 111, 116, 32] else [45]) : List UInt8).length ≤ 4 := by split <;> decide
   simp only [List.length_append]
   omega
 | .two x p q, hw => by
  have h1 := txt_weight full hw.2.1
  have h2 := txt_weight full hw.2.2
  have hf : weightG (Tr.two x p q).flat = weightG p.flat + weightG q.flat + weighG x := by show weightG (p.flat ++ q.flat ++ [x]) = _; rw [weight_app, weight_app, weight_one]
  have hp1 := weigh_pos hw.1
  have hs := signT_len x
  have hp := put_len (wantT full (rowG p.root) (if rowG x = 4 then 5 else rowG x)) (p.txt full)
  have hq := put_len (wantT full (rowG q.root) (rowG x + 1)) (q.txt full)
  rw [hf, Tr.txt]
  simp only [List.length_append, List.length_cons, List.length_nil]
  omega

open Go.ChangeShapes Go.WideShapes Go.ChangeAt Go.RowKit
theorem own : ownKnob Tryz.prog.godebug = none := by kernel_rfl
theorem laidOut : laidOutB Tryz.prog = true := by kernel_rfl

open Go.ChangeShapes Go.WideShapes Go.ChangeAt Go.RowKit
theorem bytes43 : Tryz.prog.bytesOf 43 = 72 := by kernel_rfl
theorem cellsNd : Tryz.prog.cellsOf 43 = 24 := by kernel_rfl
theorem cellsI : Tryz.prog.cellsOf 3 = 1 := by kernel_rfl
theorem cellsU : Tryz.prog.cellsOf 40 = 1 := by kernel_rfl
theorem cellsB : Tryz.prog.cellsOf 5 = 1 := by kernel_rfl
theorem cellsA : Tryz.prog.cellsOf 41 = 16 := by kernel_rfl
def byteN : Value → UInt8
 | .int _ a => UInt8.ofNat a.toNat
 | _ => 0
def intN : Value → Int
 | .int _ a => a
 | _ => 0
def ivl (cs : List Value) (i : Nat) : Int := intN (cs.getD i undef)
def ngOf (cs : List Value) : Ng := ⟨ivl cs 0, ivl cs 1, (ivl cs 2).toNat, (ivl cs 3).toNat, ivl cs 4, ivl cs 5, ivl cs 6, ((cs.drop 7).take 16).map byteN, ivl cs 23⟩
def Ng.ok (x : Ng) : Prop := x.n ≤ 4294967295 ∧ x.m ≤ 4294967295 ∧ x.addr.length = 16
theorem arr16N {H : Type} {enc : TypeId × Value → H} {W : World} {base : Nat} {spare : Nat → Bool} {held : Bool} {fuel : Nat} {cs : List Value} {x : DataW H × List MemPlace}
  (h : DataW.trod enc Tryz.prog W base spare held fuel 41 cs = some x) : cs.length = 16 ∧ ∀ i (hi : i < cs.length), cs[i] = .int .u8 ((byteN cs[i]).toNat : Int) := by
 obtain ⟨ys, m, _, rfl, hl, hlen, hf⟩ := DataW.trod_array Tryz.underlying41 h
 rw [cellsA] at hl
 refine ⟨hl, fun i hi => ?_⟩
 have f := hf i (by omega)
 rw [cellsB, Nat.mul_one, List.getElem?_eq_getElem (by omega), List.drop_eq_getElem_cons hi, List.take_succ_cons, List.take_zero] at f
 obtain ⟨k, e, _, w⟩ := DataW.trod_int Tryz.underlying5 f
 simp only [List.cons.injEq, and_true] at e
 have b := bounds_u8 w
 rw [e]
 have z : ((UInt8.ofNat k.toNat).toNat : Int) = k := by simp; omega
 simp only [byteN, z]
theorem one_int {H : Type} {enc : TypeId × Value → H} {W : World} {base : Nat} {spare : Nat → Bool} {held : Bool} {fuel : Nat} {cs : List Value} {x : DataW H × List MemPlace} (o : Nat) (ho : o < cs.length)
  (h : DataW.trod enc Tryz.prog W base spare held fuel 3 ((cs.drop o).take 1) = some x) : cs[o] = .int .i64 (ivl cs o) := by
 rw [List.drop_eq_getElem_cons ho, List.take_succ_cons, List.take_zero] at h
 obtain ⟨k, e, _, _⟩ := DataW.trod_int Tryz.underlying3 h
 simp only [List.cons.injEq, and_true] at e
 unfold ivl
 rw [List.getD_eq_getElem?_getD, List.getElem?_eq_getElem ho, e]
 rfl
theorem one_u32 {H : Type} {enc : TypeId × Value → H} {W : World} {base : Nat} {spare : Nat → Bool} {held : Bool} {fuel : Nat} {cs : List Value} {x : DataW H × List MemPlace} (o : Nat) (ho : o < cs.length)
  (h : DataW.trod enc Tryz.prog W base spare held fuel 40 ((cs.drop o).take 1) = some x) : cs[o] = .int .u32 ((ivl cs o).toNat : Int) ∧ (ivl cs o).toNat ≤ 4294967295 := by
 rw [List.drop_eq_getElem_cons ho, List.take_succ_cons, List.take_zero] at h
 obtain ⟨k, e, _, w⟩ := DataW.trod_int Tryz.underlying40 h
 simp only [List.cons.injEq, and_true] at e
 have b := bounds_u32 w
 have hi : ivl cs o = k := by
  unfold ivl
  rw [List.getD_eq_getElem?_getD, List.getElem?_eq_getElem ho, e]
  rfl
 rw [hi]
 refine ⟨?_, by omega⟩
 rw [e]
 congr 1
 omega
theorem node_cells {H : Type} {enc : TypeId × Value → H} {W : World} {base : Nat} {spare : Nat → Bool} {held : Bool} {fuel : Nat} {cs : List Value} {x : DataW H × List MemPlace} (h : DataW.trod enc Tryz.prog W base spare held fuel 43 cs = some x) : cs = (ngOf cs).cells ∧ (ngOf cs).ok := by
 obtain ⟨ys, n, _, rfl, hl, hlen, hf⟩ := DataW.trod_struct Tryz.underlying43 h
 rw [cellsNd] at hl
 have hy9 : ys.length = 9 := hlen
 have hy : ∀ i, i < 9 → ∃ y, ys[i]? = some y := fun i hi => ⟨ys[i], List.getElem?_eq_getElem (by omega)⟩
 have f0 : DataW.trod enc Tryz.prog W base spare held n 3 ((cs.drop 0).take (Tryz.prog.cellsOf 3)) = ys[0]? := hf 0 _ rfl
 have f1 : DataW.trod enc Tryz.prog W base spare held n 3 ((cs.drop 1).take (Tryz.prog.cellsOf 3)) = ys[1]? := hf 1 _ rfl
 have f2 : DataW.trod enc Tryz.prog W base spare held n 40 ((cs.drop 2).take (Tryz.prog.cellsOf 40)) = ys[2]? := hf 2 _ rfl
 have f3 : DataW.trod enc Tryz.prog W base spare held n 40 ((cs.drop 3).take (Tryz.prog.cellsOf 40)) = ys[3]? := hf 3 _ rfl
 have f4 : DataW.trod enc Tryz.prog W base spare held n 3 ((cs.drop 4).take (Tryz.prog.cellsOf 3)) = ys[4]? := hf 4 _ rfl
 have f5 : DataW.trod enc Tryz.prog W base spare held n 3 ((cs.drop 5).take (Tryz.prog.cellsOf 3)) = ys[5]? := hf 5 _ rfl
 have f6 : DataW.trod enc Tryz.prog W base spare held n 3 ((cs.drop 6).take (Tryz.prog.cellsOf 3)) = ys[6]? := hf 6 _ rfl
 have f7 : DataW.trod enc Tryz.prog W base spare held n 41 ((cs.drop 7).take (Tryz.prog.cellsOf 41)) = ys[7]? := hf 7 _ rfl
 have f8 : DataW.trod enc Tryz.prog W base spare held n 3 ((cs.drop 23).take (Tryz.prog.cellsOf 3)) = ys[8]? := hf 8 _ rfl
 rw [cellsI] at f0 f1 f4 f5 f6 f8
 rw [cellsU] at f2 f3
 rw [cellsA] at f7
 obtain ⟨y0, h0⟩ := hy 0 (by omega)
 obtain ⟨y1, h1⟩ := hy 1 (by omega)
 obtain ⟨y2, h2⟩ := hy 2 (by omega)
 obtain ⟨y3, h3⟩ := hy 3 (by omega)
 obtain ⟨y4, h4⟩ := hy 4 (by omega)
 obtain ⟨y5, h5⟩ := hy 5 (by omega)
 obtain ⟨y6, h6⟩ := hy 6 (by omega)
 obtain ⟨y7, h7⟩ := hy 7 (by omega)
 obtain ⟨y8, h8⟩ := hy 8 (by omega)
 have e0 := one_int 0 (by omega) (f0.trans h0)
 have e1 := one_int 1 (by omega) (f1.trans h1)
 have e2 := one_u32 2 (by omega) (f2.trans h2)
 have e3 := one_u32 3 (by omega) (f3.trans h3)
 have e4 := one_int 4 (by omega) (f4.trans h4)
 have e5 := one_int 5 (by omega) (f5.trans h5)
 have e6 := one_int 6 (by omega) (f6.trans h6)
 have e8 := one_int 23 (by omega) (f8.trans h8)
 obtain ⟨l7, e7⟩ := arr16N (f7.trans h7)
 have a7 : ∀ i (hi : i < 16), cs[7 + i]'(by omega) = adg (ngOf cs) i := fun i hi => by
  have := e7 i (by omega)
  rw [List.getElem_take, List.getElem_drop] at this
  rw [this]
  unfold adg ngOf
  simp only
  rw [List.getD_eq_getElem?_getD, List.getElem?_map, List.getElem?_eq_getElem (by omega), List.getElem_take, List.getElem_drop]
  rfl
 refine ⟨?_, e2.2, e3.2, by simp [ngOf, hl]⟩
 apply List.ext_getElem
 ·rw [hl]; rfl
 ·intro i hi1 hi2
  have hi : i < 24 := by omega
  have : i = 0 ∨ i = 1 ∨ i = 2 ∨ i = 3 ∨ i = 4 ∨ i = 5 ∨ i = 6 ∨ i = 7 ∨ i = 8 ∨ i = 9 ∨ i = 10 ∨ i = 11 ∨ i = 12 ∨ i = 13 ∨ i = 14 ∨ i = 15 ∨ i = 16 ∨ i = 17 ∨ i = 18 ∨ i = 19 ∨ i = 20 ∨ i = 21 ∨ i = 22 ∨ i = 23 := by omega
  rcases this with rfl | rfl | rfl | rfl | rfl | rfl | rfl | rfl | rfl | rfl | rfl | rfl | rfl | rfl | rfl | rfl | rfl | rfl | rfl | rfl | rfl | rfl | rfl | rfl
  ·exact e0
  ·exact e1
  ·exact e2.1
  ·exact e3.1
  ·exact e4
  ·exact e5
  ·exact e6
  ·exact a7 0 (by omega)
  ·exact a7 1 (by omega)
  ·exact a7 2 (by omega)
  ·exact a7 3 (by omega)
  ·exact a7 4 (by omega)
  ·exact a7 5 (by omega)
  ·exact a7 6 (by omega)
  ·exact a7 7 (by omega)
  ·exact a7 8 (by omega)
  ·exact a7 9 (by omega)
  ·exact a7 10 (by omega)
  ·exact a7 11 (by omega)
  ·exact a7 12 (by omega)
  ·exact a7 13 (by omega)
  ·exact a7 14 (by omega)
  ·exact a7 15 (by omega)
  ·exact e8
theorem open_nodes {H : Type} {enc : TypeId × Value → H} {W : World} {d : DataW H} {ps : List MemPlace} {a : Option Addr} {len cap : Nat}
  (h : DataW.Trod enc Tryz.prog W 0 (fun _ => true) true 22 (.slice a len cap) d ps) :
  ∃ xs : List Ng, len = xs.length ∧ CV W a (flatG xs) ∧ (a = none → cap = 0) ∧ (xs.length ≤ cap ∧ cap ≤ maxLen) ∧ (∀ x ∈ xs, x.ok) ∧ ((d = .nil ∧ xs = []) ∨ ∃ elems spare, d = .slice elems spare ∧ xs.length ≤ elems.length + spare.length) := by
 obtain ⟨fuel, hf⟩ := h
 rcases Go.Deep.open_slice Tryz.underlying22 hf with ⟨hcs, hx⟩ | ⟨x, l, c, m, n, D, Pl, hcs, _, hl, hm, hmm, hx, hcell⟩
 ·simp [Value.cells] at hcs
  obtain ⟨rfl, rfl, rfl⟩ := hcs
  simp only [Prod.mk.injEq] at hx
  exact ⟨[], rfl, ⟨fun _ => rfl, fun ad had => (by cases had)⟩, fun _ => rfl, ⟨Nat.le_refl _, Nat.zero_le _⟩, (fun x hx => by cases hx), .inl ⟨hx.1, rfl⟩⟩
 ·simp [Value.cells] at hcs
  obtain ⟨rfl, rfl, rfl⟩ := hcs
  simp only [Prod.mk.injEq] at hx
  simp only [if_true] at hmm
  have hmm' : m = cap := hmm
  rw [cellsNd] at hcell
  have hlen : ((List.range len).map fun i => ngOf ((W.cells? 0 (x.add (i * 24)) 24).getD [])).length = len := by simp
  refine ⟨(List.range len).map fun i => ngOf ((W.cells? 0 (x.add (i * 24)) 24).getD []), hlen.symm, ⟨fun h => (by cases h), fun ad had q hq => ?_⟩, fun h => (by cases h), ⟨by rw [hlen]; exact hl, hm⟩, fun y hy => ?_, .inr ⟨_, _, hx.1, ?_⟩⟩
  ·obtain rfl := Option.some.inj had
   have hq4 : q < len * 24 := by rw [flatG_len, hlen] at hq; exact hq
   obtain ⟨cs', hcs', htr⟩ := hcell (q / 24) (by omega)
   obtain ⟨_, hl4, hget⟩ := World.cells?_some hcs'
   have hk := (node_cells htr).1
   have hj : q % 24 < 24 := Nat.mod_lt _ (by decide)
   have e1 : (x.add (q / 24 * 24)).add (q % 24) = x.add q := by
    rw [Addr.add_add]
    congr 1
    omega
   have e2 := hget (q % 24) hj
   rw [e1] at e2
   rw [e2]
   have e3 := flatG_get ((List.range len).map fun i => ngOf ((W.cells? 0 (x.add (i * 24)) 24).getD [])) (q / 24) (q % 24) (by rw [hlen]; omega) hj
   rw [show q / 24 * 24 + q % 24 = q by omega, List.getElem?_eq_getElem hq] at e3
   rw [e3]
   simp only [List.getElem_map, List.getElem_range, hcs', Option.getD_some]
   rw [← hk]
  ·obtain ⟨i, hi, rfl⟩ := List.mem_map.1 hy
   rw [List.mem_range] at hi
   obtain ⟨cs', hcs', htr⟩ := hcell i (by omega)
   rw [hcs', Option.getD_some]
   exact (node_cells htr).2
  ·rw [hlen]
   simp
theorem filt_good {t : List Ng} (h : (checkG t).2 = 0) (hao : ∀ x ∈ t, x.ok) {T : Tr} (hT : T.Wf) (hf : T.flat = t) : T.Good ∧ T.Typed ∧ (∀ x ∈ T.flat, NumN x) ∧ ∀ full, (T.txt full).1.length ≤ 65536 := by
 obtain ⟨q, hq, -, hw⟩ := filt_iff.1 h
 obtain ⟨h1, -⟩ := filt_typed h hT hf
 rw [hf]
 refine ⟨⟨hT, fun x hx => ?_⟩, h1, fun x hx => ⟨(hao x hx).1, (hao x hx).2.1⟩, fun full => ?_⟩
 ·rw [hf] at hx
  have := walk_form t [] _ 0 hq x hx
  exact ⟨this.1, this.2.1, (hao x hx).2.2⟩
 ·have := txt_weight full hT
  rw [hf] at this
  omega
theorem filt_parse {t : List Ng} (h : (checkG t).2 = 0) (hao : ∀ x ∈ t, x.ok) {T : Tr} (hT : T.Wf) (hf : T.flat = t) {full : Bool} (hd : (T.txt full).2 ≤ 200) : ∃ ns, parseV (T.txt full).1 = .ok ns ∧ ns.map (·.1.g) = t := by
 obtain ⟨g1, g2, g3, g4⟩ := filt_good h hao hT hf
 obtain ⟨ns, h1, h2⟩ := text_parse full g1 g2 g3 hd (g4 full)
 exact ⟨ns, h1, h2.trans hf⟩
theorem text_one {t u : List Ng} (h : (checkG t).2 = 0) (hao : ∀ x ∈ t, x.ok) {T : Tr} (hT : T.Wf) (hf : T.flat = t) (k : (checkG u).2 = 0) (kao : ∀ x ∈ u, x.ok) {U : Tr} (hU : U.Wf) (kf : U.flat = u) {full : Bool} (hd : (T.txt full).2 ≤ 200) (kd : (U.txt full).2 ≤ 200)
  (he : (T.txt full).1 = (U.txt full).1) : t = u := by
 obtain ⟨ns, h1, h2⟩ := filt_parse h hao hT hf hd
 obtain ⟨ms, k1, k2⟩ := filt_parse k kao hU kf kd
 rw [he, k1] at h1
 cases h1
 exact h2.symm.trans k2
def lpN (ts : List Tk) : Nat := ts.countP fun t => (t.kind == 5 || t.kind == 2) && t.text == [40]
def putN (want : Bool) (n : Nat) : Nat := if want = true then n + 1 else n
def Tr.br : Tr → Nat
 | .leaf _ => 0
 | .one x p => if x.kind = 3 then p.br else putN (wantT false (rowG p.root) (rowG x)) p.br
 | .two x p q => putN (wantT false (rowG p.root) (if rowG x = 4 then 5 else rowG x)) p.br + putN (wantT false (rowG q.root) (rowG x + 1)) q.br
def Rd (k : Int) (ts : List Tk) (ns : List (Nd × Nat)) (r : List Tk) : Prop := ∃ T : Tr, T.Wf ∧ T.flat = ns.map (·.1.g) ∧ lpN r + (T.br + if rowG T.root < k then 1 else 0) ≤ lpN ts
theorem Rd.mono {k k' : Int} {ts ts' r r' : List Tk} {ns : List (Nd × Nat)} (h : Rd k ts ns r) (hk : k' ≤ k) (ht : lpN ts ≤ lpN ts') (hr : lpN r' ≤ lpN r) : Rd k' ts' ns r' := by
 obtain ⟨T, h1, h2, h3⟩ := h
 refine ⟨T, h1, h2, ?_⟩
 by_cases hx : rowG T.root < k'
 ·rw [if_pos hx]; rw [if_pos (by omega)] at h3; omega
 ·rw [if_neg hx]; omega
theorem flat_root {T U : Tr} (h : T.flat = U.flat) : T.root = U.root := by
 obtain ⟨l, h1⟩ := T.flat_last
 obtain ⟨m, h2⟩ := U.flat_last
 rw [h1, h2] at h
 simpa using (List.append_inj' h rfl).2
theorem tail_split {r s P Q : List Ng} (h : r ++ s = P ++ Q) (h2 : leftG 0 s = some 1) (hQ : leftG 0 Q = some 1) : r = P ∧ s = Q := by
 rcases List.append_eq_append_iff.1 h with ⟨c, h1, h3⟩ | ⟨c, h1, h3⟩
 ·by_cases hc : c = []
  ·subst hc; simp at h1 h3; exact ⟨h1.symm, h3⟩
  ·rw [h3] at h2
   have := tree_end h2 hc
   have := tree_sum hQ
   omega
 ·by_cases hc : c = []
  ·subst hc; simp at h1 h3; exact ⟨h1, h3.symm⟩
  ·rw [h3] at hQ
   have := tree_end hQ hc
   have := tree_sum h2
   omega
theorem flat_inj : ∀ (T U : Tr), T.Wf → U.Wf → T.flat = U.flat → T = U
 | .leaf x, U, hT, hU, h => by
  have hr := flat_root h
  have hT : arG x.kind = some 0 := hT
  cases U with
  | leaf y => rw [show x = y from hr]
  | one y p =>
   have hr : x = y := hr
   rw [hr, hU.1] at hT
   cases hT
  | two y p q =>
   have hr : x = y := hr
   rw [hr, hU.1] at hT
   cases hT
 | .one x p, U, hT, hU, h => by
  have hr := flat_root h
  cases U with
  | leaf y =>
   have hr : x = y := hr
   have hU : arG y.kind = some 0 := hU
   rw [← hr, hT.1] at hU
   cases hU
  | one y q =>
   have hr : x = y := hr
   have h1 : p.flat ++ [x] = q.flat ++ [y] := h
   rw [flat_inj p q hT.2 hU.2 (List.append_inj' h1 rfl).1, hr]
  | two y q s =>
   have hr : x = y := hr
   have h1 := hT.1
   rw [hr, hU.1] at h1
   cases h1
 | .two x p q, U, hT, hU, h => by
  have hr := flat_root h
  cases U with
  | leaf y =>
   have hr : x = y := hr
   have hU : arG y.kind = some 0 := hU
   rw [← hr, hT.1] at hU
   cases hU
  | one y s =>
   have hr : x = y := hr
   have h1 := hT.1
   rw [hr, hU.1] at h1
   cases h1
  | two y r s =>
   have hr : x = y := hr
   have h1 : p.flat ++ q.flat ++ [x] = r.flat ++ s.flat ++ [y] := h
   obtain ⟨h2, h3⟩ := tail_split (List.append_inj' h1 rfl).1 (Tr.flat_left hT.2.2) (Tr.flat_left hU.2.2)
   rw [flat_inj p r hT.2.1 hU.2.1 h2, flat_inj q s hT.2.2 hU.2.2 h3, hr]
end Go.Proofs.YtklipelnjgpnjaaGreatDoor
