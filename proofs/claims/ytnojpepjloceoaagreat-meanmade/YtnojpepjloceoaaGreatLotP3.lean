/-
  What chapter 8 of the document says. No Go text here. The document's own Get. The document's own Put. 'append' within a statement whose order is open. Instructions in memory: four cells each. SameInsns of two lists that read alike answers true.
-/
import Derived.Test.YtnojpepjloceoaaGreatFrameV
import Derived.Test.YtnojpepjloceoaaGreatLotP1
import Derived.Deep.RegionLaw
namespace Go.Proofs.YtnojpepjloceoaaGreat
open Go.RowKit
set_option maxRecDepth 100000

/-- What a frame is to be. -/
structure Sp where
  plain : Bool
  wide : Bool
  multi : Bool
  beg : Bool
  fin : Bool
  seq : Nat
  proto : Nat
  next : Int
  src : List UInt8
  dst : List UInt8
  ports : Bool
  frm : Nat
  til : Nat
  data : List UInt8

def be2 (v : Nat) : List UInt8 := [UInt8.ofNat (v / 256), UInt8.ofNat v]
def be4 (v : Nat) : List UInt8 := [UInt8.ofNat (v / 16777216), UInt8.ofNat (v / 65536), UInt8.ofNat (v / 256), UInt8.ofNat v]
def zeroB (a : List UInt8) (k : Nat) : Bool := (a.drop k).all (· == 0)
def saidB (s : Sp) : Bool := !s.multi || s.beg
def ipB (s : Sp) : Bool := saidB s && (s.proto == 33 || s.proto == 87)

/-- What may not be asked for. -/
structure Fits (l : Lk) (s : Sp) : Prop where
  wide : s.wide = true ∨ l.acfc = true
  piece : s.multi = true → l.mp ≠ 0 ∧ s.seq < spV l
  none : s.multi = false → s.beg = false ∧ s.fin = false ∧ s.seq = 0 ∧ (s.proto = 61 → l.mp = 0)
  mute : s.multi = true → s.beg = false → s.proto = 0 ∧ s.next = 0 ∧ s.ports = false
  said : saidB s = true → s.proto ≤ 65535 ∧ s.proto % 2 = 1 ∧ s.proto / 256 % 2 = 0
  bare : ipB s = false → s.next = 0 ∧ zeroB s.src 0 = true ∧ zeroB s.dst 0 = true ∧ s.ports = false
  next : 0 ≤ s.next ∧ s.next ≤ 255
  four : ipB s = true → s.proto = 33 → zeroB s.src 4 = true ∧ zeroB s.dst 4 = true
  mum : s.ports = false → s.frm = 0 ∧ s.til = 0
  low : s.frm ≤ 65535 ∧ s.til ≤ 65535
  first : ¬ (s.multi = false ∧ s.wide = false ∧ s.plain = false ∧ l.pfc = true ∧ s.proto = 255)

/-! What may be wrong, one by one. -/
def cond1 (l : Lk) (s : Sp) : Bool := !s.wide && !l.acfc
def cond2 (l : Lk) (s : Sp) : Bool := s.multi && (l.mp == 0 || decide (spV l ≤ s.seq))
def cond3 (l : Lk) (s : Sp) : Bool := !s.multi && (s.beg || (s.fin || (((s.seq : Int) != 0) || (((s.proto : Int) == 61) && (l.mp != 0)))))
def cond4 (s : Sp) : Bool := !saidB s && (((s.proto : Int) != 0) || ((s.next != 0) || s.ports))
def cond5 (s : Sp) : Bool := saidB s && (decide ((65535 : Int) < (s.proto : Int)) || (((s.proto : Int) % 2 == 0) || ((s.proto : Int) / 256 % 2 == 1)))
def cond6 (s : Sp) : Bool := !ipB s && ((s.next != 0) || (!zeroB s.src 0 || (!zeroB s.dst 0 || s.ports)))
def cond7 (s : Sp) : Bool := decide (s.next < 0) || decide ((255 : Int) < s.next)
def cond8 (s : Sp) : Bool := ipB s && (((s.proto : Int) == 33) && (!zeroB s.src 4 || !zeroB s.dst 4))
def cond9 (s : Sp) : Bool := !s.ports && (((s.frm : Int) != 0) || ((s.til : Int) != 0))
def cond10 (s : Sp) : Bool := decide ((65535 : Int) < (s.frm : Int)) || decide ((65535 : Int) < (s.til : Int))
def cond11 (l : Lk) (s : Sp) : Bool := !s.multi && (!s.wide && (!s.plain && (l.pfc && ((s.proto : Int) == 255))))
def fitsB (l : Lk) (s : Sp) : Bool := !(cond1 l s || (cond2 l s || (cond3 l s || (cond4 s || (cond5 s || (cond6 s || (cond7 s || (cond8 s || (cond9 s || (cond10 s || cond11 l s))))))))))

theorem fits_of {l : Lk} {s : Sp} (h : fitsB l s = true) : Fits l s := by
  simp only [fitsB, Bool.not_eq_true', Bool.or_eq_false_iff] at h
  obtain ⟨h1, h2, h3, h4, h5, h6, h7, h8, h9, h10, h11⟩ := h
  refine ⟨?_, ?_, ?_, ?_, ?_, ?_, ?_, ?_, ?_, ?_, ?_⟩
  · unfold cond1 at h1
    cases hw : s.wide <;> cases ha : l.acfc <;> simp [hw, ha] at h1 ⊢
  · intro hm
    simp only [cond2, hm, Bool.true_and, Bool.or_eq_false_iff, beq_eq_false_iff_ne, decide_eq_false_iff_not] at h2
    exact ⟨h2.1, by omega⟩
  · intro hm
    simp only [cond3, hm, Bool.not_false, Bool.true_and, Bool.or_eq_false_iff, bne_eq_false_iff_eq] at h3
    refine ⟨h3.1, h3.2.1, by omega, fun hp => ?_⟩
    have := h3.2.2.2
    rw [hp] at this
    simpa using this
  · intro hm hb
    have : saidB s = false := by simp [saidB, hm, hb]
    simp only [cond4, this, Bool.not_false, Bool.true_and, Bool.or_eq_false_iff, bne_eq_false_iff_eq] at h4
    exact ⟨by omega, h4.2.1, h4.2.2⟩
  · intro hs
    simp only [cond5, hs, Bool.true_and, Bool.or_eq_false_iff, decide_eq_false_iff_not, beq_eq_false_iff_ne] at h5
    exact ⟨by omega, by omega, by omega⟩
  · intro hi
    simp only [cond6, hi, Bool.not_false, Bool.true_and, Bool.or_eq_false_iff, bne_eq_false_iff_eq, Bool.not_eq_false'] at h6
    exact h6
  · simp only [cond7, Bool.or_eq_false_iff, decide_eq_false_iff_not] at h7
    omega
  · intro hi hp
    have hp' : ((s.proto : Int) == 33) = true := by rw [hp]; rfl
    simp only [cond8, hi, hp', Bool.true_and, Bool.or_eq_false_iff, Bool.not_eq_false'] at h8
    exact h8
  · intro hp
    simp only [cond9, hp, Bool.not_false, Bool.true_and, Bool.or_eq_false_iff, bne_eq_false_iff_eq] at h9
    exact ⟨by omega, by omega⟩
  · simp only [cond10, Bool.or_eq_false_iff, decide_eq_false_iff_not] at h10
    omega
  · rintro ⟨a1, a2, a3, a4, a5⟩
    simp [cond11, a1, a2, a3, a4, a5] at h11

def fieldV (l : Lk) (plain : Bool) (p : Nat) : List UInt8 := if l.pfc = true ∧ plain = false ∧ p < 256 then [UInt8.ofNat p] else be2 p
def hdN (l : Lk) (beg fin : Bool) (seq : Nat) : Nat := (if beg = true then 2 * tpV l else 0) + (if fin = true then tpV l else 0) + seq
def hdB (l : Lk) (beg fin : Bool) (seq : Nat) : List UInt8 := if l.mp = 2 then be4 (hdN l beg fin seq) else be2 (hdN l beg fin seq)
def loadV (s : Sp) : List UInt8 := (if s.ports = true then be2 s.frm ++ be2 s.til else []) ++ s.data
def carV (s : Sp) : List UInt8 :=
  if s.multi = true ∧ s.beg = false then loadV s
  else if s.proto = 33 then [69, 0] ++ be2 (20 + (loadV s).length) ++ [0, 0, 0, 0, 64, UInt8.ofNat s.next.toNat, 0, 0] ++ s.src.take 4 ++ s.dst.take 4 ++ loadV s
  else if s.proto = 87 then [96, 0, 0, 0] ++ be2 (loadV s).length ++ [UInt8.ofNat s.next.toNat, 64] ++ s.src ++ s.dst ++ loadV s
  else loadV s
def wideV (s : Sp) : List UInt8 := if s.wide = true then [255, 3] else []
def pieceB (l : Lk) (s : Sp) : List UInt8 := if s.multi = true then fieldV l s.plain 61 ++ hdB l s.beg s.fin s.seq else []
def ownV (l : Lk) (s : Sp) : List UInt8 := if saidB s = true then fieldV l s.plain s.proto else []
def frontV (l : Lk) (s : Sp) : List UInt8 := wideV s ++ pieceB l s ++ ownV l s
def outV (l : Lk) (s : Sp) : List UInt8 := frontV l s ++ carV s

theorem u8_of (n : Nat) : (UInt8.ofNat n).toNat = n % 256 := by simp
theorem bg_at (a b : List UInt8) (i : Nat) : bg (a ++ b) (a.length + i) = bg b i := by
  unfold bg
  rw [List.getD_eq_getElem?_getD, List.getD_eq_getElem?_getD, List.getElem?_append_right (by omega)]
  simp
theorem bg_at0 (a b : List UInt8) : bg (a ++ b) a.length = bg b 0 := bg_at a b 0

theorem field_len (l : Lk) (plain : Bool) (p : Nat) : (fieldV l plain p).length = 1 ∨ (fieldV l plain p).length = 2 := by
  unfold fieldV be2
  split <;> simp
theorem hd_len (l : Lk) (beg fin : Bool) (seq : Nat) : (hdB l beg fin seq).length = szV l := by
  unfold hdB szV be2 be4
  split <;> simp

theorem bg_be2 (v : Nat) (r : List UInt8) : bg (be2 v ++ r) 0 = v / 256 % 256 ∧ bg (be2 v ++ r) 1 = v % 256 := by
  simp [be2, bg]

/-- A protocol field is read as it was written. -/
theorem proto_field (l : Lk) (plain : Bool) (p : Nat) (pre rest : List UInt8) (h1 : p ≤ 65535) (h2 : p % 2 = 1) (h3 : p / 256 % 2 = 0) :
    protoV l (pre ++ (fieldV l plain p ++ rest)) pre.length = .ok (p, pre.length + (fieldV l plain p).length) := by
  unfold protoV
  rw [bg_at0, bg_at]
  by_cases hf : l.pfc = true ∧ plain = false ∧ p < 256
  · have e : fieldV l plain p = [UInt8.ofNat p] := by rw [fieldV, if_pos hf]
    rw [e]
    have e0 : bg ([UInt8.ofNat p] ++ rest) 0 = p := by simp [bg]; omega
    rw [e0, if_neg (by simp), if_pos h2, if_pos hf.1]
    rfl
  · have e : fieldV l plain p = be2 p := by rw [fieldV, if_neg hf]
    rw [e]
    obtain ⟨e0, e1⟩ := bg_be2 p rest
    rw [e0, e1, if_neg (by simp [be2]), if_neg (by omega), if_neg (by simp [be2]), if_neg (by omega)]
    congr 2
    omega

theorem num_be2 (v : Nat) (pre rest : List UInt8) (h : v < 65536) : numAt (pre ++ (be2 v ++ rest)) pre.length 2 = v := by
  have e0 := bg_at pre (be2 v ++ rest) 0
  have e1 := bg_at pre (be2 v ++ rest) 1
  obtain ⟨f0, f1⟩ := bg_be2 v rest
  unfold bg at e0 e1 f0 f1
  simp only [numAt, e0, e1, f0, f1]
  omega
theorem num_be4 (v : Nat) (pre rest : List UInt8) (h : v < 4294967296) : numAt (pre ++ (be4 v ++ rest)) pre.length 4 = v := by
  have e0 := bg_at pre (be4 v ++ rest) 0
  have e1 := bg_at pre (be4 v ++ rest) 1
  have e2 := bg_at pre (be4 v ++ rest) 2
  have e3 := bg_at pre (be4 v ++ rest) 3
  have f0 : ((be4 v ++ rest).getD 0 0).toNat = v / 16777216 % 256 := by simp [be4]
  have f1 : ((be4 v ++ rest).getD 1 0).toNat = v / 65536 % 256 := by simp [be4]
  have f2 : ((be4 v ++ rest).getD 2 0).toNat = v / 256 % 256 := by simp [be4]
  have f3 : ((be4 v ++ rest).getD 3 0).toNat = v % 256 := by simp [be4]
  unfold bg at e0 e1 e2 e3
  simp only [numAt, e0, e1, e2, e3, f0, f1, f2, f3]
  omega

/-- A piece's header is read as it was written. -/
theorem head_back (l : Lk) (beg fin : Bool) (seq : Nat) (pre rest : List UInt8) (hs : seq < spV l) :
    headV l (pre ++ (hdB l beg fin seq ++ rest)) pre.length = .ok (beg, fin, seq, pre.length + szV l) := by
  have hn : numAt (pre ++ (hdB l beg fin seq ++ rest)) pre.length (szV l) = hdN l beg fin seq := by
    unfold hdB szV
    unfold spV at hs
    by_cases h2 : l.mp = 2
    · rw [if_pos h2] at hs
      rw [if_pos h2, if_pos h2]
      refine num_be4 _ _ _ ?_
      unfold hdN tpV
      rw [if_pos h2]
      cases beg <;> cases fin <;> simp <;> omega
    · rw [if_neg h2] at hs
      rw [if_neg h2, if_neg h2]
      refine num_be2 _ _ _ ?_
      unfold hdN tpV
      rw [if_neg h2]
      cases beg <;> cases fin <;> simp <;> omega
  unfold headV
  rw [hn, if_neg (by rw [List.length_append, List.length_append, hd_len]; omega)]
  clear hn
  have hN : hdN l beg fin seq % tpV l = seq ∧ hdN l beg fin seq % spV l = seq ∧ decide (hdN l beg fin seq / (2 * tpV l) = 1) = beg ∧ decide (hdN l beg fin seq / tpV l % 2 = 1) = fin := by
    unfold spV at hs
    unfold hdN spV tpV
    by_cases h2 : l.mp = 2
    · rw [if_pos h2] at hs
      simp only [h2, if_true]
      cases beg <;> cases fin <;> simp <;> omega
    · rw [if_neg h2] at hs
      simp only [h2, if_false]
      cases beg <;> cases fin <;> simp <;> omega
  obtain ⟨n1, n2, n3, n4⟩ := hN
  rw [n1, n2, n3, n4, if_neg (by simp)]

/-- The view of what was made. -/
def madeV (l : Lk) (s : Sp) : Vw :=
  ⟨if saidB s = true then s.proto else 61, s.multi, s.beg, s.fin, s.seq, (frontV l s).length, if ipB s = true then (if s.proto = 33 then 4 else 6) else 0, if ipB s = true then s.next.toNat else 0, if ipB s = true then (frontV l s).length + (if s.proto = 33 then 20 else 40) else 0⟩

theorem bg_cons (x : UInt8) (r : List UInt8) : bg (x :: r) 0 = x.toNat := rfl
theorem field_first (l : Lk) (plain : Bool) (p : Nat) (r : List UInt8) (h1 : p ≤ 65535) (h3 : p / 256 % 2 = 0) (h : ¬ (plain = false ∧ l.pfc = true ∧ p = 255)) : bg (fieldV l plain p ++ r) 0 ≠ 255 := by
  unfold fieldV
  by_cases hf : l.pfc = true ∧ plain = false ∧ p < 256
  · rw [if_pos hf]
    show (UInt8.ofNat p).toNat ≠ 255
    rw [u8_of]
    intro hh
    exact h ⟨hf.2.1, hf.1, by omega⟩
  · rw [if_neg hf]
    rw [(bg_be2 p r).1]
    omega

theorem made_plain {l : Lk} {s : Sp} (F : Fits l s) : plainV l (outV l s) = .ok (wideV s).length := by
  unfold plainV outV frontV
  cases hw : s.wide with
  | true =>
    have e : wideV s = [255, 3] := by rw [wideV, if_pos hw]
    rw [e, if_pos (by
      refine ⟨by simp, ?_, ?_⟩
      · rfl
      · rfl)]
    rfl
  | false =>
    have e : wideV s = [] := by rw [wideV, if_neg (by rw [hw]; simp)]
    have ha : l.acfc = true := F.wide.resolve_left (by rw [hw]; simp)
    rw [e, if_neg, if_pos ha]
    · rfl
    · rintro ⟨-, h0, -⟩
      rw [List.nil_append] at h0
      cases hm : s.multi with
      | true =>
        have e2 : pieceB l s = fieldV l s.plain 61 ++ hdB l s.beg s.fin s.seq := by rw [pieceB, if_pos hm]
        rw [e2, List.append_assoc, List.append_assoc] at h0
        exact field_first l s.plain 61 _ (by omega) (by omega) (by omega) h0
      | false =>
        have e2 : pieceB l s = [] := by rw [pieceB, if_neg (by rw [hm]; simp)]
        have hsd : saidB s = true := by simp [saidB, hm]
        have e3 : ownV l s = fieldV l s.plain s.proto := by rw [ownV, if_pos hsd]
        obtain ⟨q1, -, q3⟩ := F.said hsd
        rw [e2, e3, List.nil_append] at h0
        refine field_first l s.plain s.proto _ q1 q3 ?_ h0
        rintro ⟨r1, r2, r3⟩
        exact F.first ⟨hm, hw, r1, r2, r3⟩

theorem made_ip {l : Lk} {s : Sp} (F : Fits l s) (hs : s.src.length = 16) (hd : s.dst.length = 16) (hip : ipB s = true) (v : Vw) (hv : v.proto = s.proto) (hp : v.pos = (frontV l s).length) :
    ipV v (outV l s) = .ok { v with net := if s.proto = 33 then 4 else 6, next := s.next.toNat, load := (frontV l s).length + (if s.proto = 33 then 20 else 40) } := by
  have hx := F.next
  have hsd : ¬ (s.multi = true ∧ s.beg = false) := by
    intro h
    simp [ipB, saidB, h.1, h.2] at hip
  have hpp : s.proto = 33 ∨ s.proto = 87 := by
    simp only [ipB, Bool.and_eq_true, Bool.or_eq_true, beq_iff_eq] at hip
    exact hip.2
  unfold ipV
  rw [hv, hp]
  unfold outV
  simp only [bg_at, bg_at0]
  have hb : ∀ i : Nat, bg (frontV l s ++ carV s) ((frontV l s).length + i) = bg (carV s) i := bg_at _ _
  rcases hpp with h33 | h87
  · have e : carV s = 69 :: 0 :: UInt8.ofNat ((20 + (loadV s).length) / 256) :: UInt8.ofNat (20 + (loadV s).length) :: 0 :: 0 :: 0 :: 0 :: 64 :: UInt8.ofNat s.next.toNat :: 0 :: 0 :: (s.src.take 4 ++ (s.dst.take 4 ++ loadV s)) := by
      rw [carV, if_neg hsd, if_pos h33]
      simp [be2]
    have hlen : 20 ≤ (carV s).length := by rw [e]; simp; omega
    have e0 : bg (carV s) 0 = 69 := by rw [e]; rfl
    have e9 : bg (carV s) 9 = s.next.toNat := by
      rw [e]
      show (UInt8.ofNat s.next.toNat).toNat = _
      rw [u8_of]
      omega
    have e6 : bg (carV s) 6 = 0 := by rw [e]; rfl
    have e7 : bg (carV s) 7 = 0 := by rw [e]; rfl
    rw [if_neg (by omega), e0, e9, e6, e7, if_neg (by rw [List.length_append]; omega), if_neg (by omega), if_neg (by omega), if_neg (by rw [List.length_append]; omega)]
    simp [h33]
  · have e : carV s = 96 :: 0 :: 0 :: 0 :: UInt8.ofNat ((loadV s).length / 256) :: UInt8.ofNat (loadV s).length :: UInt8.ofNat s.next.toNat :: 64 :: (s.src ++ (s.dst ++ loadV s)) := by
      rw [carV, if_neg hsd, if_neg (by omega), if_pos h87]
      simp [be2]
    have hlen : 40 ≤ (carV s).length := by rw [e]; simp; omega
    have e0 : bg (carV s) 0 = 96 := by rw [e]; rfl
    have e6 : bg (carV s) 6 = s.next.toNat := by
      rw [e]
      show (UInt8.ofNat s.next.toNat).toNat = _
      rw [u8_of]
      omega
    rw [if_pos h87, e0, e6, if_neg (by rw [List.length_append]; omega), if_neg (by omega)]
    simp [h87]

/-- P8.2: a frame that was made tells what was asked for. -/
theorem look_made {l : Lk} {s : Sp} (F : Fits l s) (hl : checkF l = 0) (hs : s.src.length = 16) (hd : s.dst.length = 16) (hlen : (outV l s).length ≤ 65535) : lookX l (outV l s) = .ok (madeV l s) := by
  unfold lookX
  rw [if_neg (by rw [hl]; simp)]
  have hpl := made_plain F
  cases hm : s.multi with
  | true =>
    have e2 : pieceB l s = fieldV l s.plain 61 ++ hdB l s.beg s.fin s.seq := by rw [pieceB, if_pos hm]
    obtain ⟨m1, m2⟩ := F.piece hm
    have hpc : pieceV l (outV l s) = .ok ⟨61, true, s.beg, s.fin, s.seq, (wideV s).length + (pieceB l s).length, 0, 0, 0⟩ := by
      unfold pieceV
      rw [if_neg (by omega), bind_of hpl]
      have h1 : outV l s = wideV s ++ (fieldV l s.plain 61 ++ (hdB l s.beg s.fin s.seq ++ (ownV l s ++ carV s))) := by
        rw [outV, frontV, e2]
        simp
      have h2 : outV l s = (wideV s ++ fieldV l s.plain 61) ++ (hdB l s.beg s.fin s.seq ++ (ownV l s ++ carV s)) := by rw [h1]; simp
      have hq := proto_field l s.plain 61 (wideV s) (hdB l s.beg s.fin s.seq ++ (ownV l s ++ carV s)) (by omega) (by omega) (by omega)
      rw [← h1] at hq
      rw [bind_of hq, if_neg (by simp [m1])]
      have hh := head_back l s.beg s.fin s.seq (wideV s ++ fieldV l s.plain 61) (ownV l s ++ carV s) m2
      rw [← h2, List.length_append] at hh
      rw [bind_of hh, e2, List.length_append, hd_len]
      simp only [Except.ok.injEq, Vw.mk.injEq, true_and, and_true]
      omega
    rw [bind_of hpc]
    cases hb : s.beg with
    | false =>
      have hsd : saidB s = false := by simp [saidB, hm, hb]
      have hip : ipB s = false := by simp [ipB, hsd]
      rw [if_pos ⟨rfl, rfl⟩]
      have e3 : ownV l s = [] := by rw [ownV, if_neg (by rw [hsd]; simp)]
      have hfl : (frontV l s).length = (wideV s).length + (pieceB l s).length := by rw [frontV, e3]; simp
      rw [madeV, hfl, hm, hb]
      simp [hsd, hip]
    | true =>
      have hsd : saidB s = true := by simp [saidB, hb]
      obtain ⟨q1, q2, q3⟩ := F.said hsd
      have e3 : ownV l s = fieldV l s.plain s.proto := by rw [ownV, if_pos hsd]
      have h3 : outV l s = (wideV s ++ pieceB l s) ++ (fieldV l s.plain s.proto ++ carV s) := by
        rw [outV, frontV, e3]
        simp
      have hq := proto_field l s.plain s.proto (wideV s ++ pieceB l s) (carV s) q1 q2 q3
      rw [← h3, List.length_append] at hq
      have hfl : (frontV l s).length = (wideV s).length + (pieceB l s).length + (fieldV l s.plain s.proto).length := by rw [frontV, e3]; simp; omega
      rw [if_neg (by simp), if_pos rfl]
      simp only
      rw [bind_of hq]
      simp only [Except.bind]
      cases hip : ipB s with
      | true =>
        have hpp : s.proto = 33 ∨ s.proto = 87 := by
          simp only [ipB, Bool.and_eq_true, Bool.or_eq_true, beq_iff_eq] at hip
          exact hip.2
        rw [if_pos hpp, made_ip F hs hd hip _ rfl (by rw [hfl]), madeV, hfl, hm, hb]
        simp [hsd, hip]
      | false =>
        have hpp : ¬ (s.proto = 33 ∨ s.proto = 87) := by
          intro h
          simp [ipB, hsd] at hip
          omega
        rw [if_neg hpp, madeV, hfl, hm, hb]
        simp [hsd, hip]
  | false =>
    have e2 : pieceB l s = [] := by rw [pieceB, if_neg (by rw [hm]; simp)]
    have hsd : saidB s = true := by simp [saidB, hm]
    obtain ⟨q1, q2, q3⟩ := F.said hsd
    obtain ⟨n1, n2, n3, n4⟩ := F.none hm
    have e3 : ownV l s = fieldV l s.plain s.proto := by rw [ownV, if_pos hsd]
    have h3 : outV l s = wideV s ++ (fieldV l s.plain s.proto ++ carV s) := by
      rw [outV, frontV, e2, e3]
      simp
    have hq := proto_field l s.plain s.proto (wideV s) (carV s) q1 q2 q3
    rw [← h3] at hq
    have hfl : (frontV l s).length = (wideV s).length + (fieldV l s.plain s.proto).length := by rw [frontV, e2, e3]; simp
    have hpc : pieceV l (outV l s) = .ok ⟨s.proto, false, false, false, 0, (frontV l s).length, 0, 0, 0⟩ := by
      unfold pieceV
      rw [if_neg (by omega), bind_of hpl, bind_of hq, if_pos (by
        by_cases h61 : s.proto = 61
        · exact .inl (n4 h61)
        · exact .inr h61), hfl]
    rw [bind_of hpc, if_neg (by simp), if_neg (by simp)]
    simp only [Except.bind]
    cases hip : ipB s with
    | true =>
      have hpp : s.proto = 33 ∨ s.proto = 87 := by
        simp only [ipB, Bool.and_eq_true, Bool.or_eq_true, beq_iff_eq] at hip
        exact hip.2
      rw [if_pos hpp, made_ip F hs hd hip _ rfl rfl, madeV, hm, n1, n2, n3]
      simp [hsd, hip]
    | false =>
      have hpp : ¬ (s.proto = 33 ∨ s.proto = 87) := by
        intro h
        simp [ipB, hsd] at hip
        omega
      rw [if_neg hpp, madeV, hm, n1, n2, n3]
      simp [hsd, hip]

/-- P8.1. -/
def makeX (l : Lk) (s : Sp) : Except Int (List UInt8) :=
  if checkF l ≠ 0 then .error (checkF l) else if fitsB l s = false then .error 80
  else if 65535 < s.data.length then .error 81 else if 65535 < (outV l s).length then .error 81 else .ok (outV l s)

theorem make_ok {l : Lk} {s : Sp} {b : List UInt8} (h : makeX l s = .ok b) : checkF l = 0 ∧ Fits l s ∧ b = outV l s ∧ (outV l s).length ≤ 65535 := by
  unfold makeX at h
  split at h
  · cases h
  · rename_i h1
    split at h
    · cases h
    · rename_i h2
      split at h
      · cases h
      · split at h
        · cases h
        · rename_i h4
          cases h
          exact ⟨by simpa using h1, fits_of (by simpa using h2), rfl, by omega⟩
theorem make_err {l : Lk} {s : Sp} {e : Int} (h : makeX l s = .error e) : (e != 0) = true := by
  unfold makeX at h
  split at h
  · rename_i h1
    cases h
    rw [bne_iff_ne]
    exact h1
  · split at h
    · cases h; rfl
    · split at h
      · cases h; rfl
      · split at h
        · cases h; rfl
        · cases h

end Go.Proofs.YtnojpepjloceoaaGreat

namespace Go.Proofs.YtnojpepjloceoaaGreat
open Go.RowKit
set_option maxRecDepth 100000

end Go.Proofs.YtnojpepjloceoaaGreat

namespace Go.Proofs.YtnojpepjloceoaaGreat
open Go.RowKit
set_option maxRecDepth 100000

end Go.Proofs.YtnojpepjloceoaaGreat

namespace Go.Proofs.YtnojpepjloceoaaGreat
open Go.RowKit
set_option maxRecDepth 100000

/-- 'append(dst, ..)' within a statement whose order is open: dst the call's own. -/
theorem step_append_rd {P : Program} {ops : Array Oper} {o : Oper} {a : Act} {w : World} {K : Act → World → Prop} {Q : Exit → Act → World → Prop} {E : Prop}
    (hgd : o.guard = none) (s x : Operand) (t : TypeId) (ho : o.op = .call { callee := .builtin .append, args := #[s, x], argTypes := #[t, t] })
    (i : TypeInfo) (ht : P.underlying t = some (.slice 5)) (hi : P.info? 5 = some i) (hz : i.zero = some (.int .u8 0)) (hsize : i.size = 1) (hby : i.bytes = 1)
    (base : Nat) (v : Value) (xs : List UInt8) (hs : a.eval s = v) (hown : Owns w base v xs)
    (ad : Addr) (c : Nat) (ys : List UInt8) (hx : a.eval x = .slice (some ad) ys.length c) (hys : Cells w (some ad) ys)
    (hbytes : xs.length + ys.length ≤ 140737488355328) (hbase : base ≤ w.heap.size)
    (hK : ∀ v' w', Owns w' base v' (xs ++ ys) → w.grownBy w' v.ownBlock → K (a.put o.dst v') w') :
    if Region.wanted o (yielded ops a.tmps) = true then Oper.wp P o a w K Q else E := by
  have hw : Region.wanted o (yielded ops a.tmps) = true := by simp [Region.wanted, hgd]
  rw [if_pos hw]
  refine wp_append_own w s x t ho base 5 i (.int .u8 0) 1 1 ht hi hz hsize hby rfl (by decide) v xs.length (xs.map bv) hs hown ad ys.length c (ys.map bv) hx (by simp) ?_ (bv_one ys) (by unfold maxLen; omega) (by omega) hbase ?_
  · intro j u hj
    obtain ⟨hlt, e⟩ := List.getElem?_eq_some_iff.1 hj
    simp only [List.length_map] at hlt
    rw [hys.2 ad rfl j hlt, ← e]
    simp
  · intro v' w' h1 h2 _
    refine hK v' w' ?_ h2
    unfold Owns
    rw [List.length_append, List.map_append]
    exact h1

theorem grown_alloc_drew (w : World) (o : Obj) (row : Option Nat) : w.grownBy (w.alloc o).drew row :=
  let g := World.grownBy_alloc w o row
  ⟨g.os, g.tape, g.output, g.size, g.block⟩

/-- The same for elements of several cells. -/
theorem step_append_cv {P : Program} {ops : Array Oper} {o : Oper} {a : Act} {w : World} {K : Act → World → Prop} {Q : Exit → Act → World → Prop} {E : Prop}
    (hgd : o.guard = none) (s x : Operand) (t : TypeId) (ho : o.op = .call { callee := .builtin .append, args := #[s, x], argTypes := #[t, t] })
    (e : TypeId) (i : TypeInfo) (z : Value) (size bytes : Nat) (ht : P.underlying t = some (.slice e)) (hi : P.info? e = some i) (hz : i.zero = some z) (hsize : i.size = size) (hby : i.bytes = bytes) (hzs : z.cells.size = size) (hsz : 0 < size)
    (base : Nat) (v : Value) (n : Nat) (vs : List Value) (hs : a.eval s = v) (hown : w.ownsRow base e size v n vs)
    (ad : Addr) (m c : Nat) (us : List Value) (hx : a.eval x = .slice (some ad) m c) (hl : us.length = m * size) (hus : CV w (some ad) us) (h1 : ∀ u ∈ us, u.oneCell' = true)
    (h63 : n + m ≤ maxLen) (hbytes : (n + m) * bytes ≤ 140737488355328) (hbase : base ≤ w.heap.size)
    (hK : ∀ v' w', w'.ownsRow base e size v' (n + m) (vs ++ us) → w.grownBy w' v.ownBlock → K (a.put o.dst v') w') :
    if Region.wanted o (yielded ops a.tmps) = true then Oper.wp P o a w K Q else E := by
  have hw : Region.wanted o (yielded ops a.tmps) = true := by simp [Region.wanted, hgd]
  rw [if_pos hw]
  refine wp_append_own w s x t ho base e i z size bytes ht hi hz hsize hby hzs hsz v n vs hs hown ad m c us hx hl ?_ h1 h63 hbytes hbase fun v' w' h1 h2 _ => hK v' w' h1 h2
  intro j u hj
  obtain ⟨hlt, e⟩ := List.getElem?_eq_some_iff.1 hj
  rw [hus.2 ad rfl j hlt, e]

end Go.Proofs.YtnojpepjloceoaaGreat

namespace Go.Proofs.YtnojpepjloceoaaGreat
open Go.RowKit
set_option maxRecDepth 100000

/-- An instruction. -/
structure In where
  code : UInt16
  jt : UInt8
  jf : UInt8
  k : UInt32

def In.cells (x : In) : List Value := [.int .u16 (x.code.toNat : Int), .int .u8 (x.jt.toNat : Int), .int .u8 (x.jf.toNat : Int), .int .u32 (x.k.toNat : Int)]

/-- The cells of a list of them. -/
def flat (xs : List In) : List Value := xs.flatMap In.cells

theorem flat_nil : flat [] = [] := rfl
theorem flat_cons (x : In) (xs : List In) : flat (x :: xs) = x.cells ++ flat xs := rfl
theorem flat_append (xs ys : List In) : flat (xs ++ ys) = flat xs ++ flat ys := by simp only [flat, List.flatMap_append]

theorem flat_len (xs : List In) : (flat xs).length = xs.length * 4 := by
  induction xs with
  | nil => rfl
  | cons x xs ih => rw [flat_cons, List.length_append, ih, List.length_cons]; simp [In.cells]; omega

theorem flat_get (xs : List In) (i j : Nat) (hi : i < xs.length) (hj : j < 4) : (flat xs)[i * 4 + j]? = (xs[i].cells)[j]? := by
  induction xs generalizing i with
  | nil => simp at hi
  | cons x xs ih =>
    rw [flat_cons]
    have hl : x.cells.length = 4 := rfl
    cases i with
    | zero => rw [List.getElem?_append_left (by omega)]; simp
    | succ i =>
      rw [List.getElem?_append_right (by omega), hl, show (i + 1) * 4 + j - 4 = i * 4 + j by omega, ih i (by simpa using hi)]
      simp

theorem flat_one (xs : List In) : ∀ u ∈ flat xs, u.oneCell' = true := by
  intro u hu
  obtain ⟨x, _, hx⟩ := List.mem_flatMap.1 hu
  simp only [In.cells, List.mem_cons, List.not_mem_nil, or_false] at hx
  rcases hx with rfl | rfl | rfl | rfl <;> rfl

theorem CV.insns {w : World} {ao : Option Addr} {xs : List In} (h : CV w ao (flat xs)) {k : Nat} (hk : k < xs.length) :
    ∃ b off, ao = some ⟨b, off, none⟩ ∧ ∀ i (hi : i < xs.length), w.cell? ⟨b, off + i * 4, none⟩ = some (.int .u16 (xs[i].code.toNat : Int)) ∧ w.cell? ⟨b, off + i * 4 + 1, none⟩ = some (.int .u8 (xs[i].jt.toNat : Int)) ∧
      w.cell? ⟨b, off + i * 4 + 2, none⟩ = some (.int .u8 (xs[i].jf.toNat : Int)) ∧ w.cell? ⟨b, off + i * 4 + 3, none⟩ = some (.int .u32 (xs[i].k.toNat : Int)) := by
  have hl := flat_len xs
  obtain ⟨b, off, hao, hc⟩ := h.addr (k := k * 4) (by omega)
  refine ⟨b, off, hao, fun i hi => ?_⟩
  have key : ∀ j (hj : j < 4), w.cell? ⟨b, off + i * 4 + j, none⟩ = (xs[i].cells)[j]? := fun j hj => by
    rw [← flat_get xs i j hi hj, Nat.add_assoc, hc (i * 4 + j) (by omega), List.getElem?_eq_getElem (by omega)]
  exact ⟨key 0 (by omega), key 1 (by omega), key 2 (by omega), key 3 (by omega)⟩

end Go.Proofs.YtnojpepjloceoaaGreat

namespace Go.Proofs.YtnojpepjloceoaaGreat
open Go.RowKit
set_option maxRecDepth 100000

end Go.Proofs.YtnojpepjloceoaaGreat
