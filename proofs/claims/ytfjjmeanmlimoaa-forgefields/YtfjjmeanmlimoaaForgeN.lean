/-
  Where the fields of what was made stand: no Go text here.
-/
import Derived.Test.YtfjjmeanmlimoaaForgeG
import Derived.Test.YtfjjmeanmlimoaaSame
import Derived.Deep.MidRow
namespace Go.Proofs.Ytfjjmeanmlimoaa
open Go.RowKit
set_option maxRecDepth 100000

/-- The fields of a header: how long an address is, where they begin, where the length is, how long the header is, what the length says. -/
structure Flds (s : Sp) (R : List UInt8) (F long src size hd cnt : Nat) : Prop where
  num : numAt R (F + size) 2 = cnt
  one : ∃ A B, R = A ++ (s.src.take long ++ B) ∧ A.length = F + src
  two : ∃ A B, R = A ++ (s.dst.take long ++ B) ∧ A.length = F + src + long
  por : s.ports = true → numAt R (F + hd) 2 = s.frm ∧ numAt R (F + hd + 2) 2 = s.til

theorem num_at {v : Nat} {R pre rest : List UInt8} {k : Nat} (h : v < 65536) (e : R = pre ++ (be2 v ++ rest)) (hk : pre.length = k) : numAt R k 2 = v := by
  rw [e, ← hk]
  exact num_be2 v pre rest h

theorem por_at {s : Sp} {R pre : List UInt8} {k : Nat} (hl : s.frm ≤ 65535 ∧ s.til ≤ 65535) (e : R = pre ++ loadV s) (hk : pre.length = k) (hp : s.ports = true) : numAt R k 2 = s.frm ∧ numAt R (k + 2) 2 = s.til := by
  rw [loadV, if_pos hp] at e
  refine ⟨num_at (pre := pre) (rest := be2 s.til ++ s.data) (by omega) (by rw [e]; simp) hk, num_at (pre := pre ++ be2 s.frm) (rest := s.data) (by omega) (by rw [e]; simp) (by rw [List.length_append, hk]; rfl)⟩

theorem fields4 {l : Lk} {s : Sp} (T : Fits l s) (hs : s.src.length = 16) (hd : s.dst.length = 16) (hip : ipB s = true) (h33 : s.proto = 33) (hbl : (outV l s).length ≤ 65535) :
    Flds s (outV l s) (frontV l s).length 4 12 2 20 ((outV l s).length - (frontV l s).length) := by
  have hsd : ¬ (s.multi = true ∧ s.beg = false) := by
    intro h
    simp [ipB, saidB, h.1, h.2] at hip
  have hc : carV s = [69, 0] ++ be2 (20 + (loadV s).length) ++ [0, 0, 0, 0, 64, UInt8.ofNat s.next.toNat, 0, 0] ++ s.src.take 4 ++ s.dst.take 4 ++ loadV s := by rw [carV, if_neg hsd, if_pos h33]
  have ho : outV l s = frontV l s ++ carV s := rfl
  have h4 : (s.src.take 4).length = 4 := by rw [List.length_take]; omega
  have h5 : (s.dst.take 4).length = 4 := by rw [List.length_take]; omega
  have hln : (outV l s).length = (frontV l s).length + (20 + (loadV s).length) := by
    rw [ho, List.length_append, hc]
    simp only [List.length_append, h4, h5, be2, List.length_cons, List.length_nil]
  rw [hln, Nat.add_sub_cancel_left]
  rw [hln] at hbl
  rw [ho, hc]
  refine ⟨num_at (pre := frontV l s ++ [69, 0]) (rest := [0, 0, 0, 0, 64, UInt8.ofNat s.next.toNat, 0, 0] ++ s.src.take 4 ++ s.dst.take 4 ++ loadV s) (by omega) (by simp only [List.append_assoc]) (by simp), ?_, ?_, ?_⟩
  · exact ⟨frontV l s ++ [69, 0] ++ be2 (20 + (loadV s).length) ++ [0, 0, 0, 0, 64, UInt8.ofNat s.next.toNat, 0, 0], s.dst.take 4 ++ loadV s, by simp only [List.append_assoc], by simp [be2]⟩
  · exact ⟨frontV l s ++ [69, 0] ++ be2 (20 + (loadV s).length) ++ [0, 0, 0, 0, 64, UInt8.ofNat s.next.toNat, 0, 0] ++ s.src.take 4, loadV s, by simp only [List.append_assoc], by simp only [List.length_append, h4, be2, List.length_cons, List.length_nil]⟩
  · exact por_at (pre := frontV l s ++ [69, 0] ++ be2 (20 + (loadV s).length) ++ [0, 0, 0, 0, 64, UInt8.ofNat s.next.toNat, 0, 0] ++ s.src.take 4 ++ s.dst.take 4) T.low (by simp only [List.append_assoc]) (by simp only [List.length_append, h4, h5, be2, List.length_cons, List.length_nil])

theorem fields6 {l : Lk} {s : Sp} (T : Fits l s) (hs : s.src.length = 16) (hd : s.dst.length = 16) (hip : ipB s = true) (h87 : s.proto = 87) (hbl : (outV l s).length ≤ 65535) :
    Flds s (outV l s) (frontV l s).length 16 8 4 40 ((outV l s).length - (frontV l s).length - 40) := by
  have hsd : ¬ (s.multi = true ∧ s.beg = false) := by
    intro h
    simp [ipB, saidB, h.1, h.2] at hip
  have hc : carV s = [96, 0, 0, 0] ++ be2 (loadV s).length ++ [UInt8.ofNat s.next.toNat, 64] ++ s.src ++ s.dst ++ loadV s := by rw [carV, if_neg hsd, if_neg (by omega), if_pos h87]
  have ho : outV l s = frontV l s ++ carV s := rfl
  have h4 : s.src.take 16 = s.src := List.take_of_length_le (by omega)
  have h5 : s.dst.take 16 = s.dst := List.take_of_length_le (by omega)
  have hln : (outV l s).length = (frontV l s).length + (40 + (loadV s).length) := by
    rw [ho, List.length_append, hc]
    simp only [List.length_append, hs, hd, be2, List.length_cons, List.length_nil]
  rw [hln, Nat.add_sub_cancel_left, Nat.add_sub_cancel_left]
  rw [hln] at hbl
  rw [ho, hc]
  refine ⟨num_at (pre := frontV l s ++ [96, 0, 0, 0]) (rest := [UInt8.ofNat s.next.toNat, 64] ++ s.src ++ s.dst ++ loadV s) (by omega) (by simp only [List.append_assoc]) (by simp), ?_, ?_, ?_⟩
  · rw [h4]
    exact ⟨frontV l s ++ [96, 0, 0, 0] ++ be2 (loadV s).length ++ [UInt8.ofNat s.next.toNat, 64], s.dst ++ loadV s, by simp only [List.append_assoc], by simp [be2]⟩
  · rw [h5]
    exact ⟨frontV l s ++ [96, 0, 0, 0] ++ be2 (loadV s).length ++ [UInt8.ofNat s.next.toNat, 64] ++ s.src, loadV s, by simp only [List.append_assoc], by simp only [List.length_append, hs, be2, List.length_cons, List.length_nil]⟩
  · exact por_at (pre := frontV l s ++ [96, 0, 0, 0] ++ be2 (loadV s).length ++ [UInt8.ofNat s.next.toNat, 64] ++ s.src ++ s.dst) T.low (by simp only [List.append_assoc]) (by simp only [List.length_append, hs, hd, be2, List.length_cons, List.length_nil])

/-- A part in the midst of what was made reads as the list. -/
theorem cells_mid {w : World} {g o : Nat} {R A X B : List UInt8} (h : Cells w (some ⟨g, 0, none⟩) R) (he : R = A ++ (X ++ B)) (ho : A.length = o) : Cells w (some ⟨g, o, none⟩) X := by
  refine ⟨fun e => by simp at e, fun ad had i hi => ?_⟩
  obtain rfl := Option.some.inj had
  have hl : R.length = A.length + (X.length + B.length) := by rw [he, List.length_append, List.length_append]
  have q := h.2 _ rfl (o + i) (by omega)
  rw [Addr.add_lit] at q ⊢
  rw [Nat.zero_add] at q
  rw [q]
  congr 2
  subst he
  rw [List.getElem_append_right (by omega), List.getElem_append_left (by omega)]
  congr 1
  omega

theorem cells_range {w : World} {g o : Nat} {xs : List UInt8} (h : w.rangeAt g o (xs.map bv)) (n : Nat) : Cells w (some ⟨g, o, none⟩) (xs.take n) := by
  refine ⟨fun e => by simp at e, fun ad had i hi => ?_⟩
  obtain rfl := Option.some.inj had
  rw [Addr.add_lit]
  have hi2 : i < xs.length := by rw [List.length_take] at hi; omega
  have q := h i (bv xs[i]) (by rw [List.getElem?_map, List.getElem?_eq_getElem hi2]; rfl)
  rw [q]
  simp [bv]

/-- Two parts that read alike. -/
theorem same_part {w : World} {g C o p n ca cb : Nat} {R A X B : List UInt8} (h : Cells w (some ⟨g, 0, none⟩) R) (he : R = A ++ (X.take n ++ B)) (ho : A.length = o) (hX : w.rangeAt C p (X.map bv)) (hn : n ≤ X.length) (hx : X.length = 16) :
    Calls Try.prog 12 #[.slice (some ⟨g, o, none⟩) n ca, .slice (some ⟨C, p, none⟩) n cb] w fun e w' => e = .returned (.bool true) ∧ w.grownBy w' none := by
  have hl : (X.take n).length = n := by rw [List.length_take]; omega
  have key := same_any (some ⟨g, o, none⟩) (some ⟨C, p, none⟩) ca cb (X.take n) w (cells_mid h he ho) (cells_range hX n) (by omega)
  rw [hl] at key
  refine key.mono ?_
  rintro e w' ⟨rfl, m, rfl⟩
  exact ⟨rfl, grown_drewN _ _ _⟩

theorem range_kept {w w' : World} {g o : Nat} {cs : List Value} (h : w.rangeAt g o cs) (K : w.grownBy w' none) : w'.rangeAt g o cs := fun j v hv => K.cell (h j v hv) (by simp)

end Go.Proofs.Ytfjjmeanmlimoaa
