import PyProof.Rows.All
import Wide.All
import OpenK.AllK
import Wide.FinOn
import HandS.ForMost
import HandS.Wide
import HandS.Style
import HandS.Flow
import HandS.Zip
import HandS.Walk
import HandS.IsInst
import HandS.TryOnly
import HandS.Exc
import HandS.MakeKwOnly
import KE.KExcInit
import HandS.ForExc
import HandS.ExcIs
import KE.KTryMore
import KE.KExcIs
import PyProof.ReprRoads
import HandS.TupSets
import KE.SortData
import KE.KDictKeyed
import HandS.SortOrd
import PyProof.ReprLen
import KE.LtData
import HandS.TupAny
import HandS.Lambda
import HandS.Star
import PyProof.CallFns
import HandS.Deep
import HandS.Strs
import HandS.More
import PyProof.Rows.SeqMore
import HandS.TupMul
import KE.KDictPairs
import KE.GoesMore
import KE.DataMinKey
import PyProof.SeqI3
import HandS.SortKw
import HandS.EndTab
import KE.KNest
import HandS.SetFor
import KE.SortKeyHeap
import HandS.SetTxt0
import HandS.SetBool
import HandS.Set
import HandS.Comp
import HandS.DictComp
import HandS.WideBits
import HandS.Small
import PyProof.Rows.DictTallyStr
import KE.KDictZip
import HandS.ExcValue
import KE.DataMinMax
import PySem.Challenge.RW_ripepicks_k12_pickings
set_option Elab.async false
set_option linter.all false
set_option maxRecDepth 100000
set_option maxHeartbeats 4000000
set_option synthInstance.maxHeartbeats 2000000
set_option synthInstance.maxSize 100000
/-! The layer of this project: readings by name, walks of lists and tuples alike, the tape. -/
namespace Rp
open PySem PySem.Spec PyProof.Rows L2
/-! ### readings, named -/
def rLenA (K : PySem.W.Frag) : List V → Hp → VK → Prop := fun xs H Q => ∃ x n, xs = [x] ∧ LenV K x H n ∧ Q (.int n) H
def rLenQ (K : PySem.W.Frag) : List V → Hp → VK → Prop := fun xs H Q => ∃ p ys, xs = [.ref p] ∧ (SqL K H p ys ∨ SqT K H p ys) ∧ Q (.int ys.length) H
def rLenT : List V → Hp → VK → Prop := fun xs H Q => ∃ z, xs = [.str z] ∧ z.length ≤ sizeLine ∧ Q (.int z.length) H
def rListOf (K : PySem.W.Frag) : List V → Hp → VK → Prop := fun xs H Q => ∃ p ys, xs = [.ref p] ∧ (SqL K H p ys ∨ SqT K H p ys) ∧ ∀ l, H l = none → Q (.ref l) (upd H l (.lst ys))
def rInt1 : List V → Hp → VK → Prop := fun xs H Q => (∃ i, xs = [.int i] ∧ Q (.int i) H) ∨ ∃ k, xs = [.bl k] ∧ Q (.int (if k then 1 else 0)) H
def rMax2i : List V → Hp → VK → Prop := fun xs H Q => ∃ i j, xs = [.int i, .int j] ∧ Q (.int (if j > i then j else i)) H
def rMin2i : List V → Hp → VK → Prop := fun xs H Q => ∃ i j, xs = [.int i, .int j] ∧ Q (.int (if j < i then j else i)) H
def rCatStr : R2 := fun x y H Q => ∃ i j, x = .str i ∧ y = .str j ∧ i.length + j.length ≤ sizeLine ∧ Q (.str (i ++ j)) H
def rIsN : R2 := fun x y H Q => y = .non ∧ Q (.bl (decide (x = .non))) H
def rNotN : R2 := fun x y H Q => y = .non ∧ Q (.bl (!decide (x = .non))) H
section
variable {X : Cx}
/-! ### a list or a tuple is walked -/
def iSeq (K : PySem.W.Frag) (tl : TE) : TI := fun σ H R => iList K tl σ H R ∨ iTup K tl σ H R
theorem pi_seq {tg l : Expr} {tl : TE} (hl : PE X l tl) : PI X tg l (iSeq X.K tl) :=
  ⟨fun pins s σ H R I h => h.elim (fun h => (pi_list hl).run pins s σ H R I h) (fun h => (pi_tup hl).run pins s σ H R I h)⟩
/-- a list or a tuple is unpacked -/
def gSq (K : PySem.W.Frag) (n : Nat) (t : TGs) : TG := fun v σ H Q => gTup K n t v σ H Q ∨ gLst K n t v σ H Q
theorem pg_sq {es : List Expr} {k : Nat} {t : TGs} {n : Nat} {pos : Pos} (hc : X.calm = true) (h : PGs X es t) (hn : (assignEach es X.env).length = n := by rfl) (hst : (assignEach es X.env).findIdx? (·.1) = none := by rfl) :
    PG X (.Tuple es k pos) (gSq X.K n t) :=
  ⟨fun pins s σ H v u Q I r hw => hw.elim (fun hw => (pg_tup hc h hn hst).run pins s σ H v u Q I r hw) (fun hw => (pg_lst hc h hn hst).run pins s σ H v u Q I r hw)⟩
/-- f(k = v, ..), names alone -/
theorem pe_callK0 {CX : CXT} {k : Nat} {f : Addr} {fd : FuncData} {ps ks : List Str} {sp : Sp} {E : XK} {x : Str} {p pos : Pos} {kws : List Keyword} {tk : TA} {g : List Value → List Value → List Value} {gV : List V → List V → List V}
    (F : FnOk X.prog X.w X.K X.mg X.base CX k f fd ps sp) (hr : Room k X.A) (hg : Gl X x) (hm : X.mg x = some (.ref f)) (hk : PySem.W.keepIn X.K (.ref f) = true) (hb : KBinds X.K fd ps ks g gV) (hx : Passes CX X E)
    (hkw : PK X kws tk) (hall : (backToKw pos (keywordEach kws X.env)).all (·.1.isSome) = true := by rfl) (hks : (backToKw pos (keywordEach kws X.env)).filterMap (·.1) = ks := by rfl)
    (hdb : (x == ("__debug__" : Str)) = false := by decide) (hpl : ((backTo pos (starEach [] X.env)).any (·.1) || (backToKw pos (keywordEach kws X.env)).any (·.1.isNone)) = false := by rfl) :
    PE X (.Call (.Name x p) [] kws pos) (tCallK sp gV E tNil tk) := by
  refine ⟨fun pins s σ H Q I hq => wpAny_Call_Name_kw (ld_glob I hg hm (PySem.W.callWith_KW0 (h₀ := X.base) I.ok.mod.kin hk hall (thn (hkw.run pos pins s σ H _ I hq) fun ws s2 z => ?_) hpl) hdb)⟩
  obtain ⟨zs, H2, I2, rz, q2⟩ := z
  refine ⟨I2.kIn, ?_⟩
  rw [hks]
  exact run_fnk (us := []) (vs := []) F hr hb hx I2 .nil rz q2
end
/-- a def that may raise, called where it doesn't -/
theorem passF {X : Cx} : Passes (L2.CX X.prog X.w) X E0 := fun _ _ _ _ _ _ _ h => by
  obtain ⟨_, _, _, _, _, _, _, _, _, _, _, _, h⟩ := h
  exact h.elim
/-- a text times 0 or 1 -/
def rRepStr : R2 := fun x y H Q => ∃ z n, x = .str z ∧ y = .int n ∧ 0 ≤ n ∧ n ≤ 1 ∧ Q (.str (if n < 1 then Str.empty else z)) H
theorem op_rep_str {X : Cx} : OpR X (binaryOp .Mult) rRepStr := by
  intro pins s σ H x y v u Q I rx ry h
  obtain ⟨z, n, rfl, rfl, h0, h1, q⟩ := h
  obtain ⟨t, rfl⟩ := rx
  obtain ⟨t2, rfl⟩ := ry
  by_cases c : n < 1
  · rw [if_pos c] at q
    exact PySem.P.mul_str_none c (by omega) ⟨.str Str.empty, H, I.tok _, ⟨_, rfl⟩, q⟩
  · rw [if_neg c] at q
    have e : n = 1 := by omega
    subst e
    refine PySem.P.mul_str (by decide) (fun _ k => ?_) (fun _ k => ?_) ?_
    · simp at k
    · simp at k
    · rw [if_neg (by decide), if_pos (by simp)]
      exact ⟨.str z, H, I, ⟨_, rfl⟩, q⟩
/-! ### heaps -/
def mask (t : Addr) (H : Hp) : Hp := fun b => if b = t then none else H b
/-- all but the one at t stand -/
def Ext (t : Addr) (H H' : Hp) : Prop := ∀ b o, b ≠ t → H b = some o → H' b = some o
theorem Ext.refl (t : Addr) (H : Hp) : Ext t H H := fun _ _ _ h => h
theorem Ext.trans {t : Addr} {H H1 H2 : Hp} (a : Ext t H H1) (b : Ext t H1 H2) : Ext t H H2 := fun c o n h => b c o n (a c o n h)
theorem Ext.of {t : Addr} {H H' : Hp} (a : Same H H') : Ext t H H' := fun c o _ h => a c o h
theorem Ext.upd {t : Addr} {H : Hp} (o : HO) : Ext t H (upd H t o) := fun c u n h => by rw [upd_ne n]; exact h
theorem Ext.new {t p : Addr} {H : Hp} {o : HO} (h : H p = none) : Ext t H (L2.upd H p o) := fun c u n e => by rw [upd_ne (ne_of_none e h)]; exact e
theorem Same.new {p : Addr} {H : Hp} {o : HO} (h : H p = none) : Same H (L2.upd H p o) := fun c u e => by rw [upd_ne (ne_of_none e h)]; exact e
theorem Ext.mask {t : Addr} {H H' : Hp} (a : Ext t H H') : Same (mask t H) (mask t H') := fun c o h => by
  unfold Rp.mask at h ⊢
  by_cases e : c = t
  · rw [if_pos e] at h; cases h
  · rw [if_neg e] at h ⊢; exact a c o e h
theorem mask_same (t : Addr) (H : Hp) : Same (mask t H) H := fun c o h => by
  unfold Rp.mask at h
  by_cases e : c = t
  · rw [if_pos e] at h; cases h
  · rw [if_neg e] at h; exact h
theorem mask_ne {t c : Addr} {H : Hp} (e : c ≠ t) : mask t H c = H c := if_neg e
theorem Same.seqT {K : PySem.W.Frag} {H H' : Hp} {a : Addr} {xs : List V} (e : Same H H') (h : SqT K H a xs) : SqT K H' a xs := by
  rcases h with (h | ⟨o, h⟩) | h
  · exact .inl (.inl (e _ _ h))
  · exact .inl (.inr ⟨o, e _ _ h⟩)
  · exact .inr h
mutual
theorem Dp.same {K : PySem.W.Frag} {H H' : Hp} (e : Same H H') : ∀ {v : V} {d : PyData}, Dp K H v d → Dp K H' v d
  | _, _, .non => .non
  | _, _, .bl b => .bl b
  | _, _, .int i => .int i
  | _, _, .str x => .str x
  | _, _, .lst h a => .lst (e.seq h) (DpAll.same e a)
  | _, _, .tup h a => .tup (Same.seqT e h) (DpAll.same e a)
theorem DpAll.same {K : PySem.W.Frag} {H H' : Hp} (e : Same H H') : ∀ {vs : List V} {ds : List PyData}, DpAll K H vs ds → DpAll K H' vs ds
  | _, _, .nil => .nil
  | _, _, .cons a b => .cons (Dp.same e a) (DpAll.same e b)
end
/-- the tape stands at t, so many draws done at most -/
def TapeAt (H : Hp) (t : Addr) (n : Nat) : Prop := ∃ a b c : Int, H t = some (.lst [.int a, .int b, .int c]) ∧ 0 ≤ a ∧ 0 ≤ b ∧ b < 4611686018427387904 ∧ 0 ≤ c ∧ c ≤ n
theorem TapeAt.mono {H : Hp} {t : Addr} {n m : Nat} (h : TapeAt H t n) (l : n ≤ m) : TapeAt H t m := by
  obtain ⟨a, b, c, e, h1, h2, h3, h4, h5⟩ := h
  exact ⟨a, b, c, e, h1, h2, h3, h4, by omega⟩
theorem TapeAt.same {H H' : Hp} {t : Addr} {n : Nat} (h : TapeAt H t n) (s : Same H H') : TapeAt H' t n := by
  obtain ⟨a, b, c, e, h1⟩ := h
  exact ⟨a, b, c, s _ _ e, h1⟩
theorem TapeAt.new {H : Hp} {t p : Addr} {n : Nat} {o : HO} (h : TapeAt H t n) (e : H p = none) : TapeAt (upd H p o) t n := h.same (Same.new e)
theorem cutV_to (xs : List V) (j : Nat) : cutV xs none (some (j : Int)) = xs.take j := by
  unfold cutV
  rw [HT.sIx_none, HT.sIx_nat, List.drop_zero, Nat.sub_zero]
  by_cases h : j ≤ xs.length
  · rw [Nat.min_eq_left h]
  · rw [Nat.min_eq_right (by omega), List.take_length, List.take_of_length_le (by omega)]
theorem cutV_mid (xs : List V) (i j : Nat) : cutV xs (some (i : Int)) (some (j : Int)) = (xs.take j).drop i := by
  unfold cutV
  rw [HT.sIx_nat, HT.sIx_nat, List.drop_take]
  by_cases h : i ≤ xs.length
  · rw [Nat.min_eq_left h]
    by_cases h2 : j ≤ xs.length
    · rw [Nat.min_eq_left h2]
    · rw [Nat.min_eq_right (by omega), List.take_of_length_le (by rw [List.length_drop]; omega), List.take_of_length_le (by rw [List.length_drop]; omega)]
  · rw [List.drop_eq_nil_of_le (show xs.length ≤ min i xs.length by omega), List.drop_eq_nil_of_le (show xs.length ≤ i by omega), List.take_nil, List.take_nil]
theorem gTup2 {K : PySem.W.Frag} {T : Addr} {x y : V} {i j : Nat} {σ : L2.St} {H : Hp} {Q : L2.St → Hp → Prop} (h : SqT K H T [x, y]) (q : Q ((σ.set i (some x)).set j (some y)) H) :
    gTup K 2 (gCons (gName i) (gCons (gName j) gNil)) (.ref T) σ H Q := ⟨T, [x, y], rfl, h, rfl, x, [y], rfl, y, [], rfl, rfl, q⟩
theorem atI_ok {α : Type} {xs : List α} {i : Int} {k : Nat} (e : i = (k : Int)) (h : k < xs.length) : atI xs i = some xs[k] := by
  subst e
  exact atI_nat (List.getElem?_eq_getElem h)
theorem ixN_ok {n k : Nat} {i : Int} (e : i = (k : Int)) (h : k < n) : ixN n i = some k := by
  subst e
  unfold ixN
  rw [if_pos (by omega), if_pos (by omega)]
  simp
theorem ixL {K : PySem.W.Frag} {H : Hp} {a : Addr} {xs : List V} {i : Int} {v : V} {Q : VK} (h : SqL K H a xs) (e : atI xs i = some v) (q : Q v H) : rIxL K (.ref a) (.int i) H Q := ⟨a, xs, i, v, rfl, rfl, h, e, q⟩
theorem ixLH {K : PySem.W.Frag} {H : Hp} {a : Addr} {xs : List V} {i : Int} {v : V} {Q : VK} (h : H a = some (.lst xs)) (e : atI xs i = some v) (q : Q v H) : rIxL K (.ref a) (.int i) H Q := ⟨a, xs, i, v, rfl, rfl, .inl (.inl h), e, q⟩
/-! ### walks, by an invariant -/
def LcK (J : It) (g : TG) (tt : TT) (te : TE) (vs : List Nat) (σ : L2.St) (H1 : Hp) (Q : VK) : Prop := ∀ D, H1 D = none → ∃ W : Nat → Nat → Hp → Prop, (∃ m, W 0 m (upd H1 D (.lst []))) ∧ ∀ i m H, W i m H →
  (J.stop i H ∧ Q (.ref D) H) ∨ (J.go i H ∧ ∃ Nx : Hp → Prop, (∀ H', Nx H' → ∃ m', m' < m ∧ W (i + 1) m' H') ∧ ∀ x H', J.yld i H x H' → g x (wipe σ vs) H' fun σ2 H2 => wipe σ2 vs = wipe σ vs ∧ tt σ2 H2 fun b H3 =>
    if b = true then te σ2 H3 fun y H4 => ∃ acc, H4 D = some (.lst acc) ∧ acc.length < sizeLine ∧ Nx (upd H4 D (.lst (acc ++ [y]))) else Nx H3)
theorem tLc_eq {wi : TI} {g : TG} {tt : TT} {te : TE} {vs : List Nat} {σ : L2.St} {H : Hp} {Q : VK} : tLc wi g tt te vs σ H Q = wi σ H (fun J H1 => LcK J g tt te vs σ H1 Q) := rfl
theorem lcK {J : It} {n : Nat} {G : Hp → Prop} {Y : Nat → Hp → V → Hp → Prop} (w : Walk J n G Y) {g : TG} {tt : TT} {te : TE} {vs : List Nat} {σ : L2.St} {H1 : Hp} {Q : VK} (Pv : Addr → Nat → Hp → Prop) (h0 : ∀ D, H1 D = none → Pv D 0 (upd H1 D (.lst []))) (hG : ∀ D i H, i ≤ n → Pv D i H → G H)
    (hs : ∀ D i x H H', H1 D = none → i < n → Pv D i H → Y i H x H' → g x (wipe σ vs) H' fun σ2 H2 => wipe σ2 vs = wipe σ vs ∧ tt σ2 H2 fun b H3 =>
      if b = true then te σ2 H3 fun y H4 => ∃ acc, H4 D = some (.lst acc) ∧ acc.length < sizeLine ∧ Pv D (i + 1) (upd H4 D (.lst (acc ++ [y]))) else Pv D (i + 1) H3) (hd : ∀ D H, H1 D = none → Pv D n H → Q (.ref D) H) : LcK J g tt te vs σ H1 Q :=
  fun D nD => lc_it w (Pv D) (h0 D nD) (hG D) (fun i x H H' => hs D i x H H' nD) (fun H => hd D H nD)
def FrK (J : It) (g : TG) (tb : TS) (D : Ends) (σ : L2.St) (H1 : Hp) : Prop := ∃ W : Nat → Nat → L2.St → Hp → Prop, (∃ m, W 0 m σ H1) ∧ ∀ i m σ H, W i m σ H →
  (J.stop i H ∧ D.nx σ H) ∨ (J.go i H ∧ ∃ N : L2.St → Hp → Prop, (∀ σ' H', N σ' H' → ∃ m', m' < m ∧ W (i + 1) m' σ' H') ∧ ∀ x H', J.yld i H x H' → g x σ H' fun σ2 H2 => tb { D with nx := N, ct := N, bk := D.nx } σ2 H2)
theorem tFor_eq {wi : TI} {g : TG} {tb : TS} {D : Ends} {σ : L2.St} {H : Hp} : tFor wi g tb D σ H = wi σ H (fun J H1 => FrK J g tb D σ H1) := rfl
theorem frK {J : It} {n : Nat} {G : Hp → Prop} {Y : Nat → Hp → V → Hp → Prop} (w : Walk J n G Y) {g : TG} {tb : TS} {D : Ends} {σ : L2.St} {H : Hp} (Pv : Nat → L2.St → Hp → Prop) (h0 : Pv 0 σ H) (hG : ∀ i σ H, i ≤ n → Pv i σ H → G H)
    (hs : ∀ i x σ H H', i < n → Pv i σ H → Y i H x H' → g x σ H' fun σ2 H2 => tb { D with nx := Pv (i + 1), ct := Pv (i + 1), bk := D.nx } σ2 H2) (hd : ∀ σ H, Pv n σ H → D.nx σ H) : FrK J g tb D σ H := for_it w Pv h0 hG hs hd
end Rp

namespace Rp
open PySem PySem.Spec PyProof.Rows L2 TL
/-! ### the names' mathematics -/
def nmIdx (w k : Nat) : Nat := if w = 0 then k else if w = 1 then k / 2 else k
def nmTail (w : Nat) (tail : List Nat) (k : Nat) : List Nat := if w = 0 then tail else if w = 1 then (if k % 2 = 0 then [] else tail) else tail.take (k % (tail.length + 1))
def nm (sh st w : Nat) (head tail : List Nat) (k : Nat) : List Nat := head ++ (97 + (sh + st * nmIdx w k) % 26) :: nmTail w tail k
theorem nmIdx_lt {w k : Nat} (h : k < 26) : nmIdx w k < 26 := by unfold nmIdx; split <;> (try split) <;> omega
theorem nm_inj {sh st w : Nat} {head tail : List Nat} (hst : st = 1 ∨ st = 7 ∨ st = 25) (hw : w ≠ 0 → tail ≠ []) {i j : Nat} (hi : i < 26) (hj : j < 26) (e : nm sh st w head tail i = nm sh st w head tail j) : i = j := by
  unfold nm at e
  have e1 := List.append_cancel_left e
  obtain ⟨e2, e3⟩ := List.cons.inj e1
  have li := nmIdx_lt (w := w) hi
  have lj := nmIdx_lt (w := w) hj
  have e4 : nmIdx w i = nmIdx w j := by
    rcases hst with rfl | rfl | rfl <;> omega
  unfold nmIdx at e4
  by_cases h0 : w = 0
  · rw [if_pos h0, if_pos h0] at e4; exact e4
  · rw [if_neg h0, if_neg h0] at e4
    by_cases h1 : w = 1
    · rw [if_pos h1, if_pos h1] at e4
      unfold nmTail at e3
      rw [if_neg h0, if_neg h0, if_pos h1, if_pos h1] at e3
      have ht := hw h0
      by_cases ci : i % 2 = 0
      · by_cases cj : j % 2 = 0
        · omega
        · rw [if_pos ci, if_neg cj] at e3
          exact absurd e3.symm ht
      · by_cases cj : j % 2 = 0
        · rw [if_neg ci, if_pos cj] at e3
          exact absurd e3 ht
        · omega
    · rw [if_neg h1, if_neg h1] at e4; exact e4
theorem nmTail_sub {w k : Nat} {tail : List Nat} : ∀ c ∈ nmTail w tail k, c ∈ tail := by
  intro c h
  unfold nmTail at h
  split at h
  · exact h
  · split at h
    · split at h
      · cases h
      · exact h
    · exact List.mem_of_mem_take h
theorem nmTail_len {w k : Nat} {tail : List Nat} : (nmTail w tail k).length ≤ tail.length := by
  unfold nmTail
  split
  · exact Nat.le_refl _
  · split
    · split
      · exact Nat.zero_le _
      · exact Nat.le_refl _
    · rw [List.length_take]; omega
/-! ### texts by their codes -/
def tx (l : List Nat) : Str := ⟨l.toArray⟩
theorem tx_inj {a b : List Nat} (h : tx a = tx b) : a = b := by
  have : a.toArray = b.toArray := congrArg Str.cps h
  simpa using this
theorem tx_len (l : List Nat) : (tx l).length = l.length := rfl
theorem tx_cps (l : List Nat) : (tx l).cps.toList = l := rfl
theorem tx_app (a b : List Nat) : tx a ++ tx b = tx (a ++ b) := by
  show (⟨a.toArray ++ b.toArray⟩ : Str) = ⟨(a ++ b).toArray⟩
  simp
theorem tx_empty : Str.ofString "" = tx [] := rfl
theorem cutS_to (l : List Nat) (j : Nat) : cutS (tx l) none (some (j : Int)) = tx (l.take j) := by
  unfold cutS
  rw [HT.sIx_none, HT.sIx_nat, tx_len, tx_cps, List.drop_zero, Nat.sub_zero]
  by_cases h : j ≤ l.length
  · rw [Nat.min_eq_left h]; rfl
  · rw [Nat.min_eq_right (by omega), List.take_length, List.take_of_length_le (by omega)]; rfl
theorem cutS_from (l : List Nat) (i : Nat) : cutS (tx l) (some (i : Int)) none = tx (l.drop i) := by
  unfold cutS
  rw [HT.sIx_none, HT.sIx_nat, tx_len, tx_cps]
  by_cases h : i ≤ l.length
  · rw [Nat.min_eq_left h, List.take_of_length_le (by rw [List.length_drop]; omega)]; rfl
  · rw [Nat.min_eq_right (by omega), List.drop_eq_nil_of_le (Nat.le_refl _), List.take_nil, List.drop_eq_nil_of_le (by omega)]; rfl
theorem joinL_nil : ∀ ps : List (List Nat), joinL [] ps = ps.flatten
  | [] => rfl
  | [p] => by simp [joinL]
  | p :: q :: r => by
    show p ++ ([] ++ joinL [] (q :: r)) = _
    rw [joinL_nil (q :: r)]
    simp
theorem join_signs (cs : List Nat) : Txt.join (Str.ofString "") (cs.map fun c => tx [c]) = tx cs := by
  have e : ∀ a b : Str, tl a = tl b → a = b := fun a b h => by
    cases a; cases b
    simp [tl] at h
    simpa using h
  apply e
  rw [join_eq, tl_join]
  show joinL [] _ = cs
  rw [joinL_nil]
  induction cs with
  | nil => rfl
  | cons c r ih => simpa [tl, tx] using ih
theorem letters_at {r : Int} (h0 : 0 ≤ r) (h1 : r < 26) : atI (Str.ofString "abcdefghijklmnopqrstuvwxyz").cps.toList r = some (97 + r.toNat) := by
  have e : (Str.ofString "abcdefghijklmnopqrstuvwxyz").cps.toList = (List.range 26).map (97 + ·) := by decide +kernel
  rw [e]
  have : r = ((r.toNat : Nat) : Int) := by omega
  rw [atI_ok this (by simp; omega)]
  simp
theorem letters_len : (Str.ofString "abcdefghijklmnopqrstuvwxyz").length = 26 := by decide +kernel
theorem atI3 {α : Type} {x y z : α} {i : Int} {w : Nat} (e : i = (w : Int)) (h : w < 3) : atI [x, y, z] i = some (if w = 0 then x else if w = 1 then y else z) := by
  subst e
  match w, h with
  | 0, _ => rfl
  | 1, _ => rfl
  | 2, _ => rfl
theorem idxV (w i : Nat) : (if w = 0 then V.int (i : Int) else if w = 1 then V.int ((i : Int) / 2) else V.int (i : Int)) = V.int ((nmIdx w i : Nat) : Int) := by
  unfold nmIdx
  split
  · rfl
  · split
    · rw [show ((i / 2 : Nat) : Int) = (i : Int) / 2 by omega]
    · rfl
theorem tailV (w i : Nat) (tail : List Nat) : (if w = 0 then V.str (tx tail) else if w = 1 then V.str (if (i : Int) % 2 < 1 then Str.empty else tx tail) else V.str (tx (tail.take (i % (tail.length + 1))))) = V.str (tx (nmTail w tail i)) := by
  unfold nmTail
  split
  · rfl
  · split
    · by_cases c : i % 2 = 0
      · rw [if_pos (by omega), if_pos c]; rfl
      · rw [if_neg (by omega), if_neg c]
    · rfl
theorem nodup_map {α β : Type} {f : α → β} {l : List α} (h : l.Nodup) (inj : ∀ x ∈ l, ∀ y ∈ l, f x = f y → x = y) : (l.map f).Nodup := by
  unfold List.Nodup at h ⊢
  rw [List.pairwise_map]
  exact h.imp_of_mem (fun {x y} hx hy ne e => ne (inj x hx y hy e))
theorem erase_perm {α : Type} : ∀ (l : List α) (i : Nat) (h : i < l.length), (l[i] :: l.eraseIdx i).Perm l
  | x :: r, 0, _ => .refl _
  | x :: r, i + 1, h => by
    have ih := erase_perm r i (Nat.lt_of_succ_lt_succ h)
    show ((r[i]'(Nat.lt_of_succ_lt_succ h)) :: x :: r.eraseIdx i).Perm (x :: r)
    exact (List.Perm.swap _ _ _).trans (ih.cons x)
def unV : V → Option Str
  | .str z => some z
  | _ => none
theorem unV_map (zs : List Str) : (zs.map V.str).filterMap unV = zs := by
  induction zs with
  | nil => rfl
  | cons z r ih => simpa [unV] using ih
theorem strs_of_mem : ∀ (ys : List V), (∀ y ∈ ys, ∃ z, y = V.str z) → ys = (ys.filterMap unV).map V.str
  | [], _ => rfl
  | y :: r, h => by
    obtain ⟨z, rfl⟩ := h y List.mem_cons_self
    have ih := strs_of_mem r fun x hx => h x (List.mem_cons_of_mem _ hx)
    simp [unV]
    exact ih
theorem perm_strs {ys : List V} {zs : List Str} (h : ys.Perm (zs.map V.str)) : ∃ ls : List Str, ys = ls.map V.str ∧ ls.Perm zs := by
  refine ⟨ys.filterMap unV, strs_of_mem ys fun y hy => ?_, ?_⟩
  · obtain ⟨z, _, e⟩ := List.mem_map.mp (h.mem_iff.mp hy)
    exact ⟨z, e.symm⟩
  · have := h.filterMap unV
    rw [unV_map] at this
    exact this
def IsName (z : Str) : Prop := 1 ≤ z.length ∧ z.length ≤ 8 ∧ ∀ c ∈ z.cps.toList, 97 ≤ c ∧ c ≤ 122
end Rp
namespace Rp
open PySem PySem.Spec PyProof.Rows L2 RZ
/-! ### kinds of data -/
def tyN : PyData → String
  | .none => "NoneType" | .bool _ => "bool" | .int _ => "int" | .str _ => "str" | .list _ => "list" | .tuple _ => "tuple" | .dict _ => "dict"
theorem tyL {K : PySem.W.Frag} {H : Hp} {a : Addr} {xs : List V} (h : SqL K H a xs) : TyX K H (.ref a) (.type "list") := by
  rcases h with (h | ⟨o, h⟩) | ⟨o, its, n, h, h2, _⟩
  · exact .base (.lst h)
  · exact .base (.frz h)
  · exact .kList h h2
theorem tyT {K : PySem.W.Frag} {H : Hp} {a : Addr} {xs : List V} (h : SqT K H a xs) : TyX K H (.ref a) (.type "tuple") := by
  rcases h with (h | ⟨o, h⟩) | ⟨o, its, n, h, h2, _⟩
  · exact .base (.tup h)
  · exact .fTuple h
  · exact .kTuple h h2
theorem Dp.ty {K : PySem.W.Frag} {H : Hp} {x : V} {d : PyData} (h : Dp K H x d) : TyX K H x (.type (tyN d)) := by
  cases h with
  | non => exact .base .non
  | bl b => exact .base (.bl b)
  | int i => exact .base (.int i)
  | str z => exact .base (.str z)
  | lst h _ => exact tyL h
  | tup h _ => exact tyT h
theorem isi1 {K : PySem.W.Frag} {H : Hp} {x : V} {d : PyData} {c : String} {b : Bool} {Q : VK} (h : Dp K H x d) (e : kitB (tyN d) c = some b) (q : Q (.bl b) H) : rIsi K [x, .ty c] H Q :=
  ⟨x, .ty c, _, .type c, b, rfl, .ty c, Dp.ty h, kit_ty e, q⟩
theorem isi2 {K : PySem.W.Frag} {H : Hp} {x : V} {d : PyData} {c1 c2 : String} {b1 b2 : Bool} {T : Addr} {Q : VK} (hT : H T = some (.tup [.ty c1, .ty c2])) (h : Dp K H x d) (e1 : kitB (tyN d) c1 = some b1) (e2 : kitB (tyN d) c2 = some b2) (q : Q (.bl (b1 || b2)) H) : rIsiT K [x, .ref T] H Q := by
  refine ⟨x, T, [.ty c1, .ty c2], _, [.type c1, .type c2], b1 || b2, rfl, hT, .cons (.ty c1) (.cons (.ty c2) .nil), Dp.ty h, ?_, q⟩
  cases b1 with
  | true => exact kitAny_cons (b := true) (kit_ty e1) (fun z => nomatch z) (fun _ => rfl)
  | false =>
    refine kitAny_cons (b := false) (kit_ty e1) (fun _ => ?_) (fun z => nomatch z)
    cases b2 with
    | true => exact kitAny_cons (b := true) (kit_ty e2) (fun z => nomatch z) (fun _ => rfl)
    | false => exact kitAny_cons (b := false) (kit_ty e2) (fun _ => rfl) (fun z => nomatch z)
theorem kb_NoneType_list : kitB "NoneType" "list" = some false := by decide +kernel
theorem kb_NoneType_tuple : kitB "NoneType" "tuple" = some false := by decide +kernel
theorem kb_NoneType_bool : kitB "NoneType" "bool" = some false := by decide +kernel
theorem kb_bool_list : kitB "bool" "list" = some false := by decide +kernel
theorem kb_bool_tuple : kitB "bool" "tuple" = some false := by decide +kernel
theorem kb_bool_str : kitB "bool" "str" = some false := by decide +kernel
theorem kb_bool_bool : kitB "bool" "bool" = some true := by decide +kernel
theorem kb_int_list : kitB "int" "list" = some false := by decide +kernel
theorem kb_int_tuple : kitB "int" "tuple" = some false := by decide +kernel
theorem kb_int_str : kitB "int" "str" = some false := by decide +kernel
theorem kb_int_bool : kitB "int" "bool" = some false := by decide +kernel
theorem kb_int_int : kitB "int" "int" = some true := by decide +kernel
theorem kb_str_list : kitB "str" "list" = some false := by decide +kernel
theorem kb_str_tuple : kitB "str" "tuple" = some false := by decide +kernel
theorem kb_str_str : kitB "str" "str" = some true := by decide +kernel
theorem kb_str_bool : kitB "str" "bool" = some false := by decide +kernel
theorem kb_list_list : kitB "list" "list" = some true := by decide +kernel
theorem kb_list_tuple : kitB "list" "tuple" = some false := by decide +kernel
theorem kb_tuple_list : kitB "tuple" "list" = some false := by decide +kernel
theorem kb_tuple_tuple : kitB "tuple" "tuple" = some true := by decide +kernel
theorem kb_dict_list : kitB "dict" "list" = some false := by decide +kernel
theorem kb_dict_tuple : kitB "dict" "tuple" = some false := by decide +kernel
def isLst : PyData → Bool
  | .list _ => true
  | _ => false
def isTpl : PyData → Bool
  | .tuple _ => true
  | _ => false
theorem kb_lst (d : PyData) : kitB (tyN d) "list" = some (isLst d) := by
  cases d with
  | none => exact kb_NoneType_list
  | bool _ => exact kb_bool_list
  | int _ => exact kb_int_list
  | str _ => exact kb_str_list
  | list _ => exact kb_list_list
  | tuple _ => exact kb_tuple_list
  | dict _ => exact kb_dict_list
theorem kb_tpl (d : PyData) : kitB (tyN d) "tuple" = some (isTpl d) := by
  cases d with
  | none => exact kb_NoneType_tuple
  | bool _ => exact kb_bool_tuple
  | int _ => exact kb_int_tuple
  | str _ => exact kb_str_tuple
  | list _ => exact kb_list_tuple
  | tuple _ => exact kb_tuple_tuple
  | dict _ => exact kb_dict_tuple
/-- data of this depth at most, no dicts, lists of a thousand at most -/
def Deep : Nat → PyData → Prop
  | _, .none => True
  | _, .bool _ => True
  | _, .int _ => True
  | _, .str _ => True
  | n + 1, .list ds => ds.length ≤ 1000 ∧ ∀ d ∈ ds, Deep n d
  | n + 1, .tuple ds => ds.length ≤ 1000 ∧ ∀ d ∈ ds, Deep n d
  | _, _ => False
theorem DpAll.len {K : PySem.W.Frag} {H : Hp} : ∀ {vs : List V} {ds : List PyData}, DpAll K H vs ds → vs.length = ds.length
  | _, _, .nil => rfl
  | _, _, .cons _ b => by rw [List.length_cons, List.length_cons, DpAll.len b]
theorem DpAll.at {K : PySem.W.Frag} {H : Hp} : ∀ {vs : List V} {ds : List PyData} {i : Nat} {v : V}, DpAll K H vs ds → vs[i]? = some v → ∃ d, ds[i]? = some d ∧ Dp K H v d
  | _, _, 0, _, .cons a _, e => by simp at e; subst e; exact ⟨_, rfl, a⟩
  | _, _, i + 1, _, .cons _ b, e => by
    obtain ⟨d, h1, h2⟩ := DpAll.at (i := i) b (by simpa using e)
    exact ⟨d, by simpa using h1, h2⟩
theorem walk_zipT {K : PySem.W.Frag} {a b : Addr} {xs ys : List V} {n : Nat} (hn : n = min xs.length ys.length) : Walk (ItzT K a b) n (fun H => SqT K H a xs ∧ SqT K H b ys) (YPair (fun i => xs[i]?) (fun i => ys[i]?)) := by
  subst hn
  refine ⟨fun i _ hi q => ⟨xs, ys, xs[i]'(by omega), ys[i]'(by omega), q.1, q.2, List.getElem?_eq_getElem _, List.getElem?_eq_getElem _⟩, fun _ q => ⟨xs, ys, q.1, q.2, by omega⟩, fun i H v H' _ q y => ?_⟩
  obtain ⟨T, x, z, h1, h2, h3, h4, h5⟩ := y
  exact ⟨T, x, z, h1, h2, h3, h4 xs q.1, h5 ys q.2⟩
theorem deep_strs (n : Nat) (zs : List Str) : ∀ d ∈ zs.map PyData.str, Deep n d := by
  intro d h
  obtain ⟨z, _, rfl⟩ := List.mem_map.mp h
  unfold Deep; trivial
theorem walk_any {K : PySem.W.Frag} {i : Nat} {σ : L2.St} {H : Hp} {a : Addr} {xs : List V} {R : It → Hp → Prop} (hv : σ[i]? = some (some (.ref a))) (hS : SqL K H a xs ∨ SqT K H a xs)
    (h : ∀ J, Walk J xs.length (fun H' => Same H H') (YAt xs) → R J H) : iSeq K (tVar i) σ H R := by
  rcases hS with hS | hS
  · exact .inl ⟨.ref a, hv, a, rfl, ⟨_, hS⟩, h _ (walk_list.mono (fun H' s => s.seq hS) (fun _ _ _ _ _ _ y => y))⟩
  · exact .inr ⟨.ref a, hv, a, rfl, ⟨_, hS⟩, h _ (walk_tup.mono (fun H' s => Same.seqT s hS) (fun _ _ _ _ _ _ y => y))⟩
theorem flat_strs (zs : List Str) : (zs.map V.str).all flatV = true := by
  induction zs with
  | nil => rfl
  | cons z r ih => simpa [flatV] using ih
end Rp

/-! Own errors with the one field what, whatever built-in class they stand under. -/
namespace PySem
namespace WhatX
open PySem.W PySem.Calls PyProof.Rows PySem.HandSPX Builtin Builtin.ObjectAttr
def iA (p1 p2 : Pos) : Arguments := { posonlyargs := [], args := [{ arg := "self", annotation := none, pos := p1 }, { arg := "what", annotation := none, pos := p2 }], vararg := none, kwonlyargs := [], kw_defaults := [], kwarg := none, defaults := [] }
def iB (q1 q2 q3 q4 : Pos) : List Stmt := [.Assign [.Attribute (.Name "self" q1) "what" q2] (.Name "what" q3) q4]
def iS : Scope := { kind := .function, names := [(PySem.Str.ofString "self", .local), (PySem.Str.ofString "what", .local)], isGenerator := false, isCoroutine := false, more := [] }
/-- what is asked of the built-in class's own chain -/
structure Under (B newId initId : String) (bm : List Value) : Prop where
  facts : ExcBaseFacts B newId initId bm
  pass : ∀ self, refuseLoop self "__setattr__" bm = pure ()
  obj : bm.contains (.type "object") = true
theorem under_LookupError : Under "LookupError" "LookupError.__new__" "LookupError.__init__" [.type "LookupError", .type "Exception", .type "BaseException", .type "object"] :=
  ⟨PySem.F.excBase_LookupError, fun self => PySem.F.store_LookupError.passes self, by decide +kernel⟩
/-- what the written part says of such a class, x at C, its __init__ at fI -/
structure WhatTxt (K : Frag) (mg : Str → Option Value) (x : Str) (C fI : Addr) : Prop where
  gC : mg x = some (.ref C)
  cls : ∃ B newId initId nm q N bs bm sn sub ab col dd k0 k1 k2 k3 k5, Under B newId initId bm ∧ K.lookup C = some (excClassObj nm q C N bs bm true sn sub ab col dd k0 k1 k2 k3 k5 newId)
  sa : findIn K (.ref C) "__setattr__" = some (some (.builtin "object.__setattr__"))
  ga : findIn K (.ref C) "__getattribute__" = some (some (.builtin "BaseException.__getattribute__"))
  gg : findIn K (.ref C) "__getattr__" = some none
  noN : findIn K (.ref C) "what" = some none
  iC : findIn K (.ref C) "__init__" = some (some (.ref fI))
  tC : typeIn K (.ref fI) = some (.type "function")
  kC : keepIn K (.ref C) = true
  exC : subIn K (.ref C) (.type "BaseException") = some true
  tyC : typeIn K (.ref C) = some (.type "type")
  hdC : hasDictIn K C = true
  fn : ∃ (qual : Str) (oc : Value) (od : Option Addr) (doc pm : Value) (an : Option Addr) (cdv ct : Value) (osl : Array (Option Value)) (p1 p2 q1 q2 q3 q4 : Pos),
    K.lookup fI = some ⟨oc, od, .func (fnOf "__init__" qual (iA p1 p2) (iB q1 q2 q3 q4) iS .none .none doc pm an cdv ct), osl⟩ ∧ codeIn K cdv qual = true
/-- self.what = v on a fresh error, by object's own store -/
theorem osaW {prog : Program} {w : World} {A : Around} {hp : Heap} {g : Array GenState} {d : Drawn} {t : Nat} {os : OsState} {R : Result → Shared → Prop} {K : Frag} {fld : Str} {tk : Tok} {val : Value} {e C : Addr} {fv : Array Value} {cdt : ClassData}
    (XK : K.In hp) (at_e : hp.get? e = some { cls := .ref C, data := .fields fv }) (hcd : clsIn K C = some cdt) (chain : ∃ bm, cdt.mro = .ref C :: bm ∧ (∀ self, refuseLoop self "__setattr__" bm = pure ()) ∧ bm.contains (.type "object") = true)
    (hasd : cdt.hasDict = true) (none_there : findIn K (.ref C) fld = some none)
    (fin : ∀ h' tk' dx, (∀ b o, b ≠ e → hp.get? b = some o → h'.get? b = some o) → hp.objs.size ≤ dx → dx ≠ e → h'.get? e = some { cls := .ref C, dict := some dx, data := .fields fv } →
      h'.Ns1 dx (fun y => if y = fld then some val else none) → R (.ok (.ret .none)) ⟨h', g, d, tk', os⟩) :
    codeAny (model prog w) A (.call (.builtin "object.__setattr__") ⟨[.ref e, .str fld tk, val], []⟩) R ⟨hp, g, d, t, os⟩ := by
  obtain ⟨bm, em, hpass, hobj⟩ := chain
  have inst : InstAt hp e { cls := .ref C, data := .fields fv } C none := ⟨at_e, rfl, rfl, trivial⟩
  have st := F.store_object
  have nonempty : cdt.mro.isEmpty = false := by rw [em]; rfl
  have obj_in : cdt.mro.contains (.type "object") = true := by rw [em, List.contains_cons, hobj]; simp
  have away : e ≠ hp.objs.size := Nat.ne_of_lt (Heap.lt_size at_e)
  have is_obj : Looks (model prog w) hp (isInstance (.ref e) (.type "object")) true :=
    inst.type.andThen (looks_mroIn XK (by unfold mroIn; rw [hcd, Option.bind_some, if_neg (by rw [nonempty]; decide), obj_in]))
  have by_mro : Looks (model prog w) hp (mroOf (.ref C)) cdt.mro := (looks_clsIn XK hcd).andThen .now
  have no_taker : Looks (model prog w) hp (storeTaker? none) none := .now
  have by_cls : Looks (model prog w) hp (classData C) cdt := looks_clsIn XK hcd
  refine codeAny_call_builtin st.slot.plain st.entry (@check_slot (model prog w) _ _ ⟨hp, g, d, t, os⟩ "object.__setattr__" "object" "__setattr__" (.ref e) [.str fld tk, val] [] _ st.kind st.split is_obj (st.args (.ref e) (.str fld tk) val) ?_)
  rw [osa_eq, refuse_eq]
  refine wpAny_bind (wpAny_bind (inst.type.at (wpAny_bind (by_mro.at ?_))))
  rw [em, refuseLoop_ref, hpass]
  refine wpAny_pure (wpAny_bind (inst.type.at (wpAny_bind ((looks_findIn XK none_there).at (wpAny_bind (no_taker.at ?_))))))
  show wpAny _ _ (storeInOwnDict (.ref e) (.ref C) (.str fld tk) fld val false) _ _ _
  obtain ⟨nm, bs, mro, ns, qn, hd, sn, sb, ab, col, del⟩ := cdt
  dsimp only at hasd
  subst hasd
  unfold storeInOwnDict ownDictForStores
  repeat (first | with_reducible refine store_in_new ?_ ?_ | with_reducible refine wpAny_loadPart_at at_e ?_ | with_reducible refine by_cls.at ?_ | wp_step)
  · exact ⟨_, #[], _, (Heap.get?_update_ne _ _ _ _ away.symm).trans (Heap.get?_push_at rfl rfl), rfl, fun q hq => absurd hq (by simp), fun _ => rfl⟩
  · intro h' tk' new_ns same
    have still : (hp.push { cls := .type "dict", data := .dict #[] }).get? e = some { cls := .ref C, data := .fields fv } := Heap.get?_push_of_some _ at_e
    refine fin h' tk' hp.objs.size (fun b o hb ho => ?_) (Nat.le_refl _) away.symm ?_ new_ns
    · exact (same.2 b (Nat.ne_of_lt (Heap.lt_size ho))).trans ((Heap.get?_update_ne _ _ _ _ hb).trans (Heap.get?_push_of_some _ ho))
    · exact (same.2 e away).trans (Heap.get?_update_self _ still rfl)
/-- what __init__ leaves of a fresh error at e -/
structure Inited (h h' : Heap) (e C dx t1 : Addr) (val : Value) : Prop where
  keep : ∀ b o, b ≠ e → h.get? b = some o → h'.get? b = some o
  obj : h'.get? e = some { cls := .ref C, dict := some dx, data := .fields #[.ref t1, .none, .none, .none, .bool false, .none] }
  dbig : h.objs.size ≤ dx
  dne : dx ≠ e
  ns : h'.Ns1 dx (fun y => if y = "what" then some val else none)
/-- a made error -/
structure Made (h h' : Heap) (e C d : Addr) (val : Value) : Prop where
  keep : ∀ b o, h.get? b = some o → h'.get? b = some o
  new : h.objs.size ≤ e
  obj : ∃ oe vs, h'.get? e = some oe ∧ oe.cls = .ref C ∧ oe.dict = some d ∧ oe.data = .fields vs ∧ vs[1]? = some .none
  dbig : h.objs.size ≤ d
  dne : d ≠ e
  ns : h'.Ns1 d (fun y => if y = "what" then some val else none)
section
variable {prog : Program} {w : World} {A : Around} {E : Value → Shared → Prop} {R : Result → Shared → Prop} {s : Shared} {K : Frag} {mg : Str → Option Value} {nx : Str} {C fI : Addr}
theorem slotC {M : Model} {name : Str} {scope : Scope} {L a : Addr} {cd : Value} {m : Str → Option Value} {y : Str} {pos : Pos} {val : Value} {Q : Value → Shared → Prop} (hn : s.heap.Ns L m) (hv : m y = some val) (h : Q val s)
    (hk : scope.kind = .function := by rfl) (hl : (envOfC name scope L a cd).kindOf y = some .local := by rfl) (hd : (y == ("__debug__" : Str)) = false := by decide) :
    wpAny M A (eval (.Name y pos) (envOfC name scope L a cd)) Q E s := wpAny_Name (wpAny_loadName_local hk hl hn hv h) hd
theorem what_init (T : WhatTxt K mg nx C fI) {e t0 : Addr} {val : Value} (XK : K.In s.heap) (hlim : s.heap.NoLimit) (he : s.heap.get? e = some (excO C t0)) (hne : K.lookup e = none) (hroom : A.depth < recursionLimit)
    (fin : ∀ h' tk dx, Inited s.heap h' e C dx t0 val → R (.ok (.ret .none)) { s with heap := h', toks := tk }) :
    codeAny (model prog w) A (.call (.ref fI) ⟨[.ref e, val], []⟩) R s := by
  obtain ⟨qual, oc, od, doc, pm, an, cdv, ct, osl, p1, p2, q1, q2, q3, q4, ho, hcd⟩ := T.fn
  obtain ⟨B, newId, initId, nm, q, N, bs, bm, sn, sub, ab, col, dd, k0, k1, k2, k3, k5, un, hC⟩ := T.cls
  have hcl : clsIn K C = some { name := nm, bases := bs, mro := .ref C :: bm, ns := N, qualname := q, hasDict := true, slotNames := sn, subclasses := sub, abstract := ab, collection := col, hasDel := false } := by unfold clsIn; rw [hC] <;> rfl
  refine Att.call_fn (binds := [("self", .ref e), ("what", val)]) XK hlim ho hcd hroom (BindsTo.of_eq (by first | rfl | with_unfolding_all rfl)) (by first | rfl | decide | with_unfolding_all rfl) (fun s1 IC => ?_) rfl rfl rfl
  obtain ⟨h1, tk1, rfl⟩ := IC.toInCall.same
  have kept : ∀ b o, s.heap.get? b = some o → h1.get? b = some o := IC.toInCall.keep
  have ns1 := IC.toInCall.ns
  have he1 := kept _ _ he
  show wpAny _ _ (execs _ _) _ _ _
  refine wpAny_execs_cons (plainObj_wpAny_Assign_Attribute ?_)
  refine slotC (val := val) ns1 (by first | rfl | with_unfolding_all rfl | kernel_rfl) (slotC (val := .ref e) ns1 (by first | rfl | with_unfolding_all rfl | kernel_rfl) ?_)
  refine set_plain (XK.keeps kept) (ox := excO C t0) (od := none) ⟨he1, rfl, rfl, trivial⟩ T.sa ?_
  refine osaW (XK.keeps kept) he1 hcl ⟨bm, rfl, un.pass, un.obj⟩ rfl T.noN (fun h3 tk3 dx k3 dn dne he3 hn3 => ?_)
  show wpAny _ _ (execs _ _) _ _ _
  have lt : s.heap.objs.size < h1.objs.size := ns1.lt
  exact wpAny_execs_nil (fin h3 tk3 dx ⟨fun b o hb eo => k3 b o hb (kept b o eo), he3, Nat.le_of_lt (Nat.lt_of_lt_of_le lt dn), dne, hn3⟩)
theorem what_made (T : WhatTxt K mg nx C fI) {val : Value} (XK : K.In s.heap) (hlim : s.heap.NoLimit) (hroom : A.depth + 1 < recursionLimit)
    (fin : ∀ h' tk e d, Made s.heap h' e C d val → R (.ok (.ret (.ref e))) { s with heap := h', toks := tk }) :
    codeAny (model prog w) A (.call (.ref C) ⟨[val], []⟩) R s := by
  obtain ⟨B, newId, initId, nm, q, N, bs, bm, sn, sub, ab, col, dd, k0, k1, k2, k3, k5, un, hC⟩ := T.cls
  obtain ⟨hp, g, dr, tk, os⟩ := s
  have kept : ∀ b o, hp.get? b = some o → ((hp.push (kdv_tup [val])).push (excO C hp.objs.size)).get? b = some o := fun b o eo => Heap.get?_push_of_some _ (Heap.get?_push_of_some _ eo)
  have at_e : ((hp.push (kdv_tup [val])).push (excO C hp.objs.size)).get? (hp.objs.size + 1) = some (excO C hp.objs.size) := by heap_get
  have not_K : K.lookup (hp.objs.size + 1) = none := by
    cases eo : K.lookup (hp.objs.size + 1) with
    | none => rfl
    | some o => exact absurd (Nat.lt_of_succ_lt (Heap.lt_size (show hp.get? (hp.objs.size + 1) = some o from XK _ _ eo))) (Nat.lt_irrefl _)
  have one : [val].length ≤ sizeLine := by rw [sizeLine_eq]; exact (by decide : 1 ≤ 16777216)
  refine call_own un.facts (fun _ => rfl) (XK _ _ hC) (looks_findIn XK T.iC) (fun self => bind_fn XK self T.tC) one ?_
  refine what_init (s := ⟨(hp.push (kdv_tup [val])).push (excO C hp.objs.size), g, dr, tk, os⟩) T (XK.keeps kept) (hlim.keeps kept) at_e not_K hroom fun h' tk' dx hI => ?_
  obtain ⟨k', hx, dn, dne, hns⟩ := hI
  have old : ∀ b o, hp.get? b = some o → h'.get? b = some o := fun b o eo => k' b o (Nat.ne_of_lt (Nat.lt_succ_of_lt (Heap.lt_size eo))) (kept b o eo)
  have big : hp.objs.size + 1 + 1 ≤ dx := by
    first
      | (simpa only [Heap.size_push] using dn)
      | exact dn
  exact ⟨rfl, fin h' tk' (hp.objs.size + 1) dx ⟨old, Nat.le_succ _, ⟨_, _, hx, rfl, rfl, rfl, rfl⟩, Nat.le_trans (Nat.le_trans (Nat.le_succ _) (Nat.le_succ _)) big, dne, hns⟩⟩
end
end WhatX
end PySem
namespace Rp
open PySem PySem.Spec PyProof.Rows L2 PySem.WhatX
theorem relO_what {v : V} {u : Value} (r : RelV v u) (f : Str) : RelO (List.lookup f [(("what" : Str), v)]) (if f = "what" then some u else none) := by
  by_cases hw : f = "what"
  · subst hw
    rw [if_pos rfl, show List.lookup ("what" : Str) [(("what" : Str), v)] = some v by simp [List.lookup]]
    exact r
  · have qw : (f == ("what" : Str)) = false := by simpa using hw
    rw [if_neg hw, show List.lookup f [(("what" : Str), v)] = none by simp [List.lookup, qw]]
    trivial
section
variable {X : Cx} {nx : Str} {C fI : Addr}
/-- C(e), an error of such a class -/
def tMkWhat (C : Addr) (ta : TA) : L2.St → Hp → XK → Prop := fun σ H Q => ta σ H fun vs H1 => ∃ v, vs = [v] ∧ ∀ d, H1 d = none → Q (.ref C) (some d) (upd H1 d (.xd [(("what" : Str), v)]))
theorem pmk_what {a : Expr} {ta : TA} {p pos : Pos} {k : Nat} (T : WhatTxt X.K X.mg nx C fI) (hr : Room k X.A) (ha : PA X [a] ta) (hg : Gl X nx) (hdb : (nx == ("__debug__" : Str)) = false := by decide)
    (he : starEach (a :: []) X.env = (false, eval a X.env) :: starEach [] X.env := by rfl) (hpl : (backTo pos (starEach [] X.env)).any (·.1) = false := by rfl) :
    PMk X (.Call (.Name nx p) [a] [] pos) (tMkWhat C ta) := by
  intro pins s σ H Q I h
  refine wpAny_Call_Name_kw (ld_glob I hg T.gC ?_ hdb)
  refine PySem.W.callWith_K (h₀ := X.base) I.ok.mod.kin T.kC (thn (ha.run pos pins s σ H _ I h) fun us s1 hh => ?_) he hpl
  obtain ⟨vs, H1, I1, r1, v, ev, q1⟩ := hh
  subst ev
  refine ⟨I1.kIn, ?_⟩
  cases r1 with
  | cons rv rn =>
    rename_i v' us'
    cases rn
    show wpAny _ _ (call (.ref C) [v']) _ _ _
    have hlim := I1.nolimit
    obtain ⟨hp, g, dr, tk, os⟩ := s1
    refine wpAny_call (what_made T I1.kIn hlim (by have := hr.dp; omega) fun h' tk' e d M => ?_)
    show MkP X pins σ Q (.ref e) ⟨h', g, dr, tk', os⟩
    obtain ⟨oe, fv, hoe, hc, hd, hdat, h1⟩ := M.obj
    have hns := M.ns
    obtain ⟨G', g1, g2⟩ := restrict h' fun b => decide (b ≠ e)
    have gk : ∀ b, b ≠ e → G'.get? b = h'.get? b := fun b hb => g1 b (decide_eq_true hb)
    have ge : G'.get? e = none := g2 e (by simp)
    have old : ∀ b o, hp.get? b = some o → G'.get? b = some o := fun b o q => (gk b (Nat.ne_of_lt (Nat.lt_of_lt_of_le (Heap.lt_size q) M.new))).trans (M.keep b o q)
    have ob : ObjOk X.prog X.w (upd H1 d (.xd [(("what" : Str), v)])) G' d (.xd [(("what" : Str), v)]) :=
      ⟨_, hns.at (fun o q => (gk d M.dne).trans q), fun f => relO_what rv f⟩
    have J : Inv X pins σ (upd H1 d (.xd [(("what" : Str), v)])) ⟨G', g, dr, tk', os⟩ := I1.laid (t' := tk') old M.dbig ob
    refine ⟨e, oe, fv, ⟨G', g, dr, tk', os⟩, _, .ref C, some d, rfl, J, fun b o q => ?_, ge, hoe, ⟨hc, hd⟩, hdat, h1, ?_, rfl, I1.bare, raises_own T.exC T.tyC, q1 d (I1.hok.fresh M.dbig)⟩
    · by_cases hb : b = e
      · have q' : G'.get? b = some o := q
        rw [hb, ge] at q'; cases q'
      · exact (gk b hb).symm.trans q
    · rw [upd_ne (Ne.symm M.dne)]
      exact I1.hok.fresh M.new
/-- raise C(e) -/
def tRaiseWhat (C : Addr) (W : WX) (ta : TA) : TS := fun _ σ H => tMkWhat C ta σ H fun cls d H' => W cls d σ H'
theorem ps_raiseWhat {a : Expr} {ta : TA} {W : WX} {p pos pos2 : Pos} {k : Nat} (hc : X.calm = true) (T : WhatTxt X.K X.mg nx C fI) (hr : Room k X.A) (tk : Takes X W) (ha : PA X [a] ta) (hg : Gl X nx) (hdb : (nx == ("__debug__" : Str)) = false := by decide)
    (he : starEach (a :: []) X.env = (false, eval a X.env) :: starEach [] X.env := by rfl) (hpl : (backTo pos (starEach [] X.env)).any (·.1) = false := by rfl) :
    PS X (.Raise (some (.Call (.Name nx p) [a] [] pos)) none pos2) (tRaiseWhat C W ta) := ps_raise hc tk (pmk_what T hr ha hg hdb he hpl)
end
end Rp

/-! An error that is caught by a tuple of classes and kept behind the suite. -/
namespace Rp
open PySem PySem.Spec PyProof.Rows L2
/-- the error at a, of the class at C, its own dict at d -/
def ExH (a C d : Addr) : HO := .ext fun h => ∃ (oe : Obj) (vs : Array Value), h.get? a = some oe ∧ oe.cls = .ref C ∧ oe.dict = some d ∧ oe.data = .fields vs
theorem exH_ok {P : Program} {w : World} {H : Hp} {h : Heap} {a C d : Addr} {oe : Obj} {vs : Array Value} (e : h.get? a = some oe) (z : Zc (.ref C) (some d) oe) (hd : oe.data = .fields vs) : ObjOk P w H h a (ExH a C d) :=
  ⟨⟨oe, vs, e, z.1, z.2, hd⟩, ⟨oe, e⟩, fun h1 h2 p k => by
    obtain ⟨o, v, e1, r⟩ := p
    exact ⟨o, v, k _ e1, r⟩⟩
section
variable {X : Cx} {pins : List (Addr × Obj)} {σ : L2.St} {H : Hp} {s : Shared}
/-- an object that is there, younger than the entry, is tracked from now on -/
theorem track {a : Addr} {o : HO} (I : Inv X pins σ H s) (na : H a = none) (n0 : X.s_0.heap.get? a = none) (nL : a ≠ X.env.locals) (nC : ∀ x c, X.env.cells.lookup x = some c → c ≠ a) (nP : ∀ p ∈ X.pn ++ pins, p.1 ≠ a)
    (new : ObjOk X.prog X.w (upd H a o) s.heap a o) : Inv X pins σ (upd H a o) s := by
  have ne0 : ∀ b ob, X.s_0.heap.get? b = some ob → b ≠ a := fun b ob e z => by rw [z, n0] at e; cases e
  refine ⟨I.ok, I.os, I.bare, ⟨I.base.keep, I.base.slot, fun b ob e n hx => ?_, I.base.there, fun b xs e => ?_, fun b ob u e => ?_, fun b ps e => ?_⟩, I.loc, I.cell, ?_, fun x c e => ?_, fun p hp => ?_, ?_, I.len⟩
  · rw [upd_ne (ne0 b ob e)]; exact I.base.free b ob e n hx
  · have q := I.base.tups b xs e
    rw [upd_ne (ne_of_none q na)]; exact q
  · have q := I.base.frzs b ob u e
    rw [upd_ne (ne_of_none q na)]; exact q
  · obtain ⟨m, q⟩ := I.base.tbls b ps e
    exact ⟨m, by rw [upd_ne (ne_of_none q na)]; exact q⟩
  · rw [upd_ne nL.symm]; exact I.free
  · rw [upd_ne (nC x c e)]; exact I.freeC x c e
  · obtain ⟨q1, q2, q3⟩ := I.pin p hp
    exact ⟨q1, by rw [upd_ne (nP p hp)]; exact q2, q3⟩
  · intro b u e
    by_cases hb : b = a
    · subst hb
      rw [upd_same] at e; cases e
      exact new
    · rw [upd_ne hb] at e
      exact (I.hok b u e).stay (fun _ _ _ q => q) (fun c q => by rw [upd_ne (ne_of_none q na)]; exact q) (fun c xs q => by rw [upd_ne (ne_of_none q na)]; exact q)
end
theorem flying_keeps {B h h' : Heap} {l : List Env} {e : Addr} {Z : Obj → Prop} (f : HandSPX.FlyingZ B l e Z h) (k : ∀ b o, h.get? b = some o → h'.get? b = some o) : HandSPX.FlyingZ B l e Z h' := by
  obtain ⟨f1, f2, f3, oe, vs, T, oT, ts, g1, g2, g3, g4, g5, g6, g7, g8, g9⟩ := f
  exact ⟨fun b o q => k b o (f1 b o q), f2, f3.of_keeps (fun b o q _ => ⟨o, k b o q, rfl⟩), oe, vs, T, oT, ts, k _ _ g1, g2, g3, g4, g5, g6, k _ _ g7, g8, g9⟩
/-- how a tuple of classes is matched -/
def ExmTup (K : PySem.W.Frag) (cs : List Value) : Prop := ∀ (M : Model) (h : Heap) (tp e : Addr) (cls : Value) (b : Bool), K.In h → PySem.W.Looks M h (typeOf (.ref e)) cls → h.get? tp = some { cls := .type "tuple", data := .seq cs.toArray } →
  PySem.W.exmAny K cls cs = some b → PySem.W.Looks M h (excMatches (.ref e) (.ref tp)) b
theorem exmTup2 {K : PySem.W.Frag} {c1 c2 : Value} : ExmTup K [c1, c2] := fun _ _ _ _ _ _ X L p x => PySem.W.exm_tup2 X L p x
/-- names of the module, one behind the other: nothing changes -/
def NmOk (X : Cx) (es : List Expr) (cs : List Value) : Prop := ∀ (E : Value → Shared → Prop) (pos : Pos) (pins : List (Addr × Obj)) (s : Shared) (σ : L2.St) (H : Hp) (Q : List Value → Shared → Prop), Inv X pins σ H s → Q cs s →
  wpAny (model X.prog X.w) X.A (spliced (backTo pos (starEach es X.env))) Q E s
theorem nm_nil {X : Cx} : NmOk X [] [] := fun _ _ _ _ _ _ _ _ q => Calls.spliced_nil q
theorem nm_cons {X : Cx} {x : Str} {p : Pos} {es : List Expr} {c : Value} {cs : List Value} (hg : Gl X x) (hm : X.mg x = some c) (hr : NmOk X es cs) (hd : (x == ("__debug__" : Str)) = false := by decide)
    (hs : starEach (.Name x p :: es) X.env = (false, eval (.Name x p) X.env) :: starEach es X.env := by rfl) : NmOk X (.Name x p :: es) (c :: cs) := by
  intro E pos pins s σ H Q I q
  rw [hs]
  show wpAny _ _ (spliced ((false, eval (.Name x p) X.env) :: backTo pos (starEach es X.env))) _ _ s
  exact Calls.spliced_cons (ld_glob I hg hm (hr E pos pins s σ H _ I q) hd)
/-- behind the suite the clause's name is gone -/
def goneAt (i : Nat) (D : Ends) : Ends := { nx := fun σ H => D.nx (σ.set i none) H, rt := D.rt, bk := fun σ H => D.bk (σ.set i none) H, ct := fun σ H => D.ct (σ.set i none) H }
/-- what is wished of an error of the body: one of these classes catches it, and it's tracked from then on -/
def wHeld (K : PySem.W.Frag) (cs : List Value) (i : Nat) (ts : Addr → TS) (D : Ends) : WX := fun cls d σ H =>
  ∃ C dd, cls = .ref C ∧ d = some dd ∧ PySem.W.exmAny K cls cs = some true ∧ ∀ a, H a = none → ts a (goneAt i D) (σ.set i (some (.ref a))) (upd H a (ExH a C dd))
section
variable {X : Cx} {n : Str} {i : Nat} {body suite : List Stmt} {b0 : Stmt} {es : List Expr} {kt : Nat} {tpos pos pos' : Pos} {tb : WX → TS} {ts : Addr → TS} {cs : List Value}
theorem suite_plain {pins : List (Addr × Obj)} {σ : L2.St} {H : Hp} {s : Shared} (I : Inv X pins σ H s) (a : Addr) : Inv (X.suite a (X.pn ++ pins)) [] σ H s :=
  ⟨I.ok.suite _ _, I.os, I.bare, I.base, I.loc, I.cell, I.free, I.freeC, fun p hp => I.pin p (by rw [List.append_nil] at hp; exact hp), I.hok, I.len⟩
theorem unsuite_plain {pins pn' : List (Addr × Obj)} {σ : L2.St} {H : Hp} {s : Shared} {a : Addr} (I : Inv (X.suite a (X.pn ++ pins)) pn' σ H s) (ok : X.Ok) : Inv X pins σ H s :=
  ⟨ok, I.os, I.bare, I.base, I.loc, I.cell, I.free, I.freeC, fun p hp => I.pin p (List.mem_append_left _ hp), I.hok, I.len⟩
theorem ps_try_held (hs : X.stack = X.env :: X.outer) (hf : X.env.frame = some X.env.locals) (hN : X.N.Nodup) (hi : X.N[i]? = some n) (hln : X.env.kindOf n = some .local) (hex : X.ex = []) (hlen : cs.length ≤ sizeLine)
    (hE : ExmTup X.K cs) (hnm : ∀ (a : Addr) (pn : List (Addr × Obj)), NmOk (X.suite a pn) es cs)
    (hb : ∀ (W : WX) (pn : List (Addr × Obj)) (xe : Value → Shared → Prop), Takes (X.tr pn xe) W → PassesOwn (model X.prog X.w) X.A X.env xe → PSs (X.tr pn xe) body (tb W))
    (hsu : ∀ (a : Addr) (pn : List (Addr × Obj)), PSs (X.suite a pn) (b0 :: suite) (ts a)) :
    PS X (.Try body [.ExceptHandler (some (.Tuple es kt tpos)) (some n) (b0 :: suite) pos'] [] [] pos) (fun D σ H => tb (wHeld X.K cs i ts D) D σ H) := by
  refine ⟨fun pins s σ H D I h => ?_⟩
  have ok := I.ok
  have frames : X.A.frames = some (X.env :: X.outer) := by rw [ok.frames, hs]
  have isloc : Loc X.env.scope n := .inl hln
  refine wpAny_Try_except ?_
  refine wpAny_mono ((hb (wHeld X.K cs i ts D) (X.pn ++ pins) (fun e s1 => wpAny (model X.prog X.w) X.A (noteFrame e X.env) (fun _ s2 => wpAny (model X.prog X.w) X.A (setFlight e none) (fun _ s3 =>
    wpAny (model X.prog X.w) X.A (handleBy e X.env [.ExceptHandler (some (.Tuple es kt tpos)) (some n) (b0 :: suite) pos']) (SP X pins D) X.xe s3) X.xe s2) X.xe s1) (fun u s' air => ?_) PassesOwn.looking).run [] s σ H D (I.toTry _) h) (fun f s1 hsp => ?_) (fun e s1 he => he)
  · obtain ⟨a, B, sI, pins', σ', H', cls, d, rfl, J', ground, up, sky, na, os, ag, C, dd, rfl, rfl, hx, hyes⟩ := air
    have J : Inv X pins σ' H' sI := J'.ofTry ok
    have sky' : Sky B (X.env :: X.outer) a (Zc (.ref C) (some dd)) X.env.locals s'.heap := by rw [← hs]; exact sky
    show wpAny (model X.prog X.w) X.A (noteFrame (.ref a) X.env) _ _ _
    refine Sky.land Zc.steady frames hf sky' fun h3 fl3 up3 => ?_
    have J3 : Inv X pins σ' H' { s' with heap := h3 } := J.landed ground fl3.1 (up.trans up3) os ag
    obtain ⟨oe3, vs3, he3, hz3, hd3⟩ := fl3.there
    have notFr : a ∉ frs (X.env :: X.outer) := fun hm => by
      obtain ⟨_, o', e', hnf⟩ := fl3.2.2.1.mem hm
      rw [he3] at e'; cases e'
      exact hnf _ hd3
    have nL : a ≠ X.env.locals := fun z => notFr (List.mem_filterMap.mpr ⟨X.env, List.mem_cons_self, by rw [hf, z]⟩)
    have nF : a ∉ X.fs := fun hm => by
      obtain ⟨e, he, q⟩ := List.mem_filterMap.mp hm
      exact notFr (List.mem_filterMap.mpr ⟨e, List.mem_cons_of_mem _ he, q⟩)
    have notI : sI.heap.get? a = none := by
      cases q : sI.heap.get? a with
      | none => rfl
      | some o => have z := ground a o q (by rw [hs]; exact notFr); rw [fl3.2.1] at z; cases z
    have not0 : X.s_0.heap.get? a = none := by
      cases q : X.s_0.heap.get? a with
      | none => rfl
      | some o =>
        obtain ⟨o', z⟩ := J.base.there a o q (by rw [hex]; exact fun z => nomatch z)
        rw [notI] at z; cases z
    have notC : ∀ x c, X.env.cells.lookup x = some c → c ≠ a := fun x c e z => by
      obtain ⟨v, o, q, _⟩ := J.cell x c e
      rw [z, notI] at q; cases q
    have notP : ∀ p ∈ X.pn ++ pins, p.1 ≠ a := fun p hp z => by
      have q := (J.pin p hp).1
      rw [z, notI] at q; cases q
    have S3 := suite_plain J3 a
    refine wpAny_handleBy_cons (codeAny_handlers_test ?_) (by intro q; cases q)
    refine wpAny_Tuple_spliced (hnm a (X.pn ++ pins) _ _ [] _ σ' H' _ S3 ⟨hlen, ?_⟩)
    have old4 : ∀ b o, h3.get? b = some o → (h3.push { cls := .type "tuple", data := .seq cs.toArray }).get? b = some o := fun b o q => Heap.get?_push_of_some _ q
    have fl4 := flying_keeps fl3 old4
    have J4 : Inv X pins σ' H' { s' with heap := h3.push { cls := .type "tuple", data := .seq cs.toArray } } := J3.kept (t' := s'.toks) old4
    have at4 : (h3.push { cls := .type "tuple", data := .seq cs.toArray }).get? h3.objs.size = some { cls := .type "tuple", data := .seq cs.toArray } := Heap.get?_push_size _ rfl
    generalize (h3.push { cls := .type "tuple", data := .seq cs.toArray }) = h4 at old4 fl4 J4 at4 ⊢
    have tyA : PySem.W.Looks (model X.prog X.w) h4 (typeOf (.ref a)) (.ref C) := fun A Q E s k q => wpAny_typeOf_ref (k _ _ (old4 _ _ he3)) (by rw [hz3.1]; exact q)
    refine (hE (model X.prog X.w) h4 _ a (.ref C) true J4.kIn tyA at4 hx).here ?_
    refine codeAny_handlers_suite_as ?_
    refine HandSPX.lands_againZ fl4 fun h5 fl5 up5 => ?_
    obtain ⟨oe5, vs5, he5, hz5, hd5⟩ := fl5.there
    have up34 : h3.UpToSlots h4 := fun b o q _ => ⟨o.slots, old4 b o q⟩
    have J5 : Inv X pins σ' H' { s' with heap := h5 } := J.landed ground fl5.1 (((up.trans up3).trans up34).trans up5) os ag
    have T5 := track J5 na not0 nL notC notP (exH_ok (P := X.prog) (w := X.w) (H := upd H' a (ExH a C dd)) he5 hz5 hd5)
    have S5 := suite_plain T5 a
    refine store_ok (X := X.suite a (X.pn ++ pins)) (v := .ref a) S5 hN hi isloc rfl (fun s6 S6 => ?_) (.inr hln)
    refine wpAny_mono ((hsu a (X.pn ++ pins)).run [] s6 _ _ _ S6 (hyes a na)) (fun f s7 hsp => ?_) (fun _ _ z => False.elim z)
    have end_ : ∀ {σ7 : L2.St} {H7 : Hp} {Q : Shared → Prop}, Inv (X.suite a (X.pn ++ pins)) [] σ7 H7 s7 → (∀ s8, Inv X pins (σ7.set i none) H7 s8 → Q s8) →
        wpAny (model X.prog X.w) X.A (do bindName X.env n .none; unbindBehindTheSuite X.env n pos') (fun _ s8 => Q s8) X.xe s7 := fun {σ7 H7 Q} S7 hq => gone_ok (unsuite_plain S7 ok) hN hi hln hq
    cases f with
    | next =>
      obtain ⟨σ7, H7, S7, q7⟩ := hsp
      exact end_ S7 fun s8 J8 => ⟨_, _, J8, q7⟩
    | brk =>
      obtain ⟨σ7, H7, S7, q7⟩ := hsp
      exact end_ S7 fun s8 J8 => ⟨_, _, J8, q7⟩
    | cont =>
      obtain ⟨σ7, H7, S7, q7⟩ := hsp
      exact end_ S7 fun s8 J8 => ⟨_, _, J8, q7⟩
    | ret u =>
      obtain ⟨v7, σ7, H7, S7, r7, q7⟩ := hsp
      exact end_ S7 fun s8 J8 => ⟨_, _, _, J8, r7, q7⟩
  · cases f with
    | next =>
      obtain ⟨σ', H', J', q⟩ := hsp
      exact wpAny_execs_nil ⟨σ', H', J'.ofTry ok, q⟩
    | brk =>
      obtain ⟨σ', H', J', q⟩ := hsp
      exact ⟨σ', H', J'.ofTry ok, q⟩
    | cont =>
      obtain ⟨σ', H', J', q⟩ := hsp
      exact ⟨σ', H', J'.ofTry ok, q⟩
    | ret u =>
      obtain ⟨v, σ', H', J', r, q⟩ := hsp
      exact ⟨v, σ', H', J'.ofTry ok, r, q⟩
end
end Rp

namespace Rp
open PySem PySem.Spec PyProof.Rows L2 PySem.WhatX
/-- what more the class must say, so that isinstance asks its errors rightly -/
structure IsC (K : PySem.W.Frag) (C : Addr) : Prop where
  hg : PySem.W.findIn K (.ref C) "__getattribute__" = some (some (.builtin "BaseException.__getattribute__"))
  hk : PySem.W.findIn K (.ref C) "__getattr__" = some none
  hs : PySem.W.subIn K (.ref C) (.type "BaseException") = some true
  hd : PySem.W.hasDictIn K C = true
  ha : PySem.W.findIn K (.ref C) "__class__" = some (some (.builtin "object.__class__"))
  hn : PySem.W.specialIn K (.builtin "object.__class__") "__get__" = some (some (.builtin "getset_descriptor.__get__"))
  ht : PySem.W.takesIn K (.builtin "object.__class__") = some true
  hm : PySem.W.mroIn K C (.type "object") = some true
section
variable {X : Cx} {pins : List (Addr × Obj)} {σ : L2.St} {H : Hp} {s : Shared}
/-- the error and its dict, as the heap has them -/
theorem held_inst {a C d : Addr} {fs : List (Str × V)} (I : Inv X pins σ H s) (ha : H a = some (ExH a C d)) (hd : H d = some (.xd fs)) :
    ∃ (oe od : Obj), PySem.W.InstAt s.heap a oe C (some od) ∧ s.heap.get? d = some od ∧ ∃ mA, s.heap.Ns1 d mA ∧ ∀ f, RelO (fs.lookup f) (mA f) := by
  obtain ⟨⟨oe, vs, e1, e2, e3, e4⟩, _⟩ := I.hok a _ ha
  obtain ⟨mA, hns, hr⟩ := (show ObjOk X.prog X.w H s.heap d (.xd fs) from I.hok d _ hd)
  obtain ⟨od, ho, _⟩ := lookIn_ns hns
  exact ⟨oe, od, ⟨e1, e2, by unfold PySem.W.notCls; rw [e4] <;> rfl, by rw [e3]; exact ho⟩, ho, mA, hns, hr⟩
theorem IsC.cl {K : PySem.W.Frag} {C : Addr} (Z : IsC K C) : (PySem.W.clsIn K C).isSome = true := by
  obtain ⟨cd, hc, _⟩ := PySem.W.any_some Z.hd
  rw [hc]; rfl
end
section
variable {X : Cx}
/-- isinstance(e, c), e an error that is kept -/
def rIsH (K : PySem.W.Frag) : List V → Hp → VK → Prop := fun xs H Q => ∃ (a C d : Addr) (fs : List (Str × V)) (c : V) (u : Value) (b : Bool), xs = [.ref a, c] ∧ H a = some (ExH a C d) ∧ H d = some (.xd fs) ∧ IsC K C ∧ ClsV c u ∧ PySem.W.kitOne K (.ref C) u = some b ∧ Q (.bl b) H
theorem call_isH : CallR X (.builtin "isinstance") (rIsH X.K) := by
  intro pins s σ H xs us Q I r h
  obtain ⟨a, C, d, fs, c, u, b, rfl, ha, hd, Z, k, e, q⟩ := h
  obtain ⟨u1, u2, rfl, r1, r2⟩ := vals2 r
  have e2 := k.eq r2
  subst e2
  cases (show u1 = Value.ref a from r1)
  obtain ⟨oe, od, J, _⟩ := held_inst I ha hd
  exact PySem.W.kia_one (PySem.W.kitx_exc Z.cl Z.hg Z.hk Z.hs Z.ha Z.hn Z.ht Z.hm) I.kIn J e (fun z => nomatch z) fun tk => ⟨.bl b, H, I.tok tk, rfl, q⟩
/-- isinstance(e, (c1, c2, ..)) -/
def rIsHT (K : PySem.W.Frag) : List V → Hp → VK → Prop := fun xs H Q => ∃ (a C d : Addr) (fs : List (Str × V)) (tp : Addr) (cs : List V) (us : List Value) (b : Bool), xs = [.ref a, .ref tp] ∧ H a = some (ExH a C d) ∧ H d = some (.xd fs) ∧ IsC K C ∧ H tp = some (.tup cs) ∧ Paired ClsV cs us ∧ PySem.W.kitAny K (.ref C) us = some b ∧ Q (.bl b) H
/-- e.what, e an error that is kept -/
def tWhatH (K : PySem.W.Frag) (te : TE) : TE := fun σ H Q => te σ H fun x H1 => ∃ (a C d : Addr) (v : V), x = .ref a ∧ H1 a = some (ExH a C d) ∧ H1 d = some (.xd [(("what" : Str), v)]) ∧ IsC K C ∧ PySem.W.findIn K (.ref C) "what" = some none ∧ Q v H1
theorem pe_whatH {e : Expr} {te : TE} {pos : Pos} (he : PE X e te) (hb : attributeBase e "what" X.env (eval e X.env) = eval e X.env := by rfl) : PE X (.Attribute e "what" pos) (tWhatH X.K te) := by
  refine ⟨fun pins s σ H Q I h => ?_⟩
  refine attr_of hb (thn (he.run pins s σ H _ I h) fun u s1 hh => ?_)
  obtain ⟨x, H1, I1, rx, a, C, d, v, ex, ha, hd, Z, nw, q⟩ := hh
  subst ex
  obtain rfl : u = Value.ref a := rx
  obtain ⟨oe, od, J, ho, mA, hns, hr⟩ := held_inst I1 ha hd
  obtain ⟨od2, ho2, hl⟩ := lookIn_ns hns
  rw [ho] at ho2; cases ho2
  have l : List.lookup ("what" : Str) [(("what" : Str), v)] = some v := by simp [List.lookup]
  obtain ⟨u, hu, ru⟩ := RelO.some_of (v := v) (o := mA "what") (by rw [← l]; exact hr "what")
  exact HandSPX.exc_get I1.kIn J Z.hg Z.hk Z.hs (PySem.W.findObj_own Z.hd nw rfl (by rw [hl, hu])) (handed_of ru) ⟨v, H1, I1.tok _, ru, q⟩
end
/-! ### classes beside one another -/
theorem exm_own {K : PySem.W.Frag} {a b : Addr} {r : Bool} (hb : PySem.W.subIn K (.ref b) (.type "BaseException") = some true) (hd : PySem.W.hasDictIn K b = true) (ht : PySem.W.typeIn K (.ref b) = some (.type "type")) (h : PySem.W.subIn K (.ref a) (.ref b) = some r) :
    PySem.W.exmOne K (.ref a) (.ref b) = some r := PySem.W.exm_ref hb hd ht h
theorem kitCls_own {K : PySem.W.Frag} {a b : Addr} {r : Bool} (hb : PySem.W.subIn K (.ref b) (.type "BaseException") = some true) (hd : PySem.W.hasDictIn K b = true) (ht : PySem.W.typeIn K (.ref b) = some (.type "type")) (h : PySem.W.subIn K (.ref a) (.ref b) = some r) :
    PySem.W.kitCls K (.ref a) (.ref b) = some r := by
  have e := exm_own hb hd ht h
  unfold PySem.W.exmOne at e
  rw [if_pos (by rw [hb]; rfl)] at e
  exact e
theorem kit_own {K : PySem.W.Frag} {a b : Addr} {r : Bool} (hb : PySem.W.subIn K (.ref b) (.type "BaseException") = some true) (hd : PySem.W.hasDictIn K b = true) (ht : PySem.W.typeIn K (.ref b) = some (.type "type")) (hs : PySem.W.subIn K (.ref b) (.ref b) = some true) (h : PySem.W.subIn K (.ref a) (.ref b) = some r) :
    PySem.W.kitOne K (.ref a) (.ref b) = some r := by
  unfold PySem.W.kitOne
  by_cases c : (Value.ref a == Value.ref b) = true
  · rw [if_pos c]
    have e : a = b := Value.ref.inj (beq_iff_eq.mp c)
    subst e
    rw [hs] at h
    exact h
  · rw [if_neg c]
    exact kitCls_own hb hd ht h
theorem kit_builtin {K : PySem.W.Frag} {a : Addr} {t : String} {r : Bool} (hm : PySem.W.kitMeta t = true) (h : PySem.W.subIn K (.ref a) (.type t) = some r) : PySem.W.kitOne K (.ref a) (.type t) = some r := by
  unfold PySem.W.kitOne
  rw [if_neg (by intro z; cases (beq_iff_eq.mp z))]
  unfold PySem.W.kitCls
  first
    | (rw [if_pos hm]; exact h)
    | (simp only [hm, if_true]; exact h)
end Rp

/-! Defs that ask for a repr: they are called where no repr is under way. -/
namespace Rp
open PySem PySem.Spec PyProof.Rows L2
/-- as FnOk, but where no repr is under way -/
structure FnOkG (P : Program) (w : World) (K : PySem.W.Frag) (mg : Str → Option Value) (base : Heap) (CXX : CXT) (lev : Nat) (at_ : Addr) (data : FuncData) (pars : List Str) (promise : Sp) : Prop where
  long : ∀ vals H Q E, promise vals H Q E → vals.length = pars.length
  goes : ∀ (A : Around) (outer : List Env) (s : Shared) (H : Hp) (args : Args) (us : List Value) (vals : List V) (Q : VK) (E : XK), A.guards = some [] → Room lev A → Env0 P w K mg base A outer s H → BindsTo s data args (pars.zip us) →
    Vals vals us → promise vals H Q E → codeAny (model P w) A (.call (.ref at_) args) (CR CXX outer P w H s Q E) s
section
variable {P : Program} {w : World} {K : PySem.W.Frag} {mg : Str → Option Value} {base : Heap}
theorem okG {x qual : Str} {st : Stmt} {f : Addr} {fd : FuncData} {N ps : List Str} {lev : Nat} {promise : Sp} (F : Fun K x qual st f fd) (S : FnScope N ps (defScope st)) (long : ∀ vals H Q E, promise vals H Q E → vals.length = ps.length)
    (walk : ∀ (cdv : Value) (A : Around) (outer : List Env) (s : Shared) (H : Hp) (vals : List V) (Q : VK) (E : XK), A.guards = some [] → Room lev (A.deeper (envOfC qual (defScope st) s.heap.objs.size f cdv)) → promise vals H Q E →
      ∃ t, PSs (cxOf CX0 P w K mg base N qual (defScope st) f cdv A outer s H E).nox (defBody st) t ∧ t { nx := fun _ H' => Q .non H', rt := Q } (start N vals) H) : FnOkG P w K mg base CX0 (lev + 1) f fd ps promise := by
  obtain ⟨oc, od, kV, doc, pm, an, cdv, ct, osl, rfl, lk, hcd⟩ := F.ex
  refine ⟨long, fun A outer s H args us vals Q E noRepr room env binds rel asked => ?_⟩
  have inK : K.In s.heap := env.mod.kin.keeps fun b o e => (env.bs b o e).1
  have noLim : s.heap.NoLimit := env.mod.nolimit.keeps fun b o e => (env.bs b o e).1
  have kinds : ∀ y ∈ ps.zip us, (defScope st).names.lookup y.1 = some .local ∨ ((defScope st).names.lookup y.1 = some .cell ∧ ((cellsFrom (s.heap.objs.size + 1) (defScope st).names []).lookup y.1).isSome = true) := fun y hy =>
    (S.par y.1 (List.of_mem_zip (a := y.1) (b := y.2) hy).1).elim .inl fun c => .inr ⟨c, PySem.W.cellsFrom_some _ _ _ (.inl c)⟩
  refine codeAny_call_function room.depth (inK _ _ lk) rfl S.co S.gen rfl (PySem.W.codeRec_of inK hcd) (binds _ _ _ _ ?_)
  refine wpAny_newFunctionEnv_cells S.kind kinds fun e2 he2 s1 entered => ?_
  subst he2
  refine ⟨noLim.keeps entered.toInCall.keep, codeAny_func ?_⟩
  obtain ⟨t, body, reading⟩ := walk cdv A outer s H vals Q E noRepr (room.deeper _) asked
  have I := inv_start (CX := CX0) (E := E) S room.hd env (long _ _ _ _ asked) rel entered
  refine wpAny_mono (body.nox.run [] s1 (start N vals) H _ I reading) (fun flow s2 ends => ?_) fun e s2 ends => ends
  cases flow with
  | ret u =>
    obtain ⟨v, σ2, H2, J, rv, q⟩ := ends
    exact ⟨v, H2, J.os, J.bare, J.base, J.hok, rv, q⟩
  | next =>
    obtain ⟨σ2, H2, J, q⟩ := ends
    exact ⟨.non, H2, J.os, J.bare, J.base, J.hok, rfl, q⟩
  | brk => exact (let ⟨_, _, _, q⟩ := ends; False.elim q)
  | cont => exact (let ⟨_, _, _, q⟩ := ends; False.elim q)
end
section
variable {X : Cx}
theorem pe_callG {CXX : CXT} {lev : Nat} {f : Addr} {fd : FuncData} {ps : List Str} {promise : Sp} {E : XK} {x : Str} {p pos : Pos} {e : Expr} {es : List Expr} {t : TA}
    (F : FnOkG X.prog X.w X.K X.mg X.base CXX lev f fd ps promise) (noRepr : X.A.guards = some []) (room : Room lev X.A) (hg : Gl X x) (hm : X.mg x = some (.ref f)) (hk : PySem.W.keepIn X.K (.ref f) = true) (hb : Binds X.K fd ps []) (hx : Passes CXX X E)
    (ha : PA X (e :: es) t) (hdb : (x == ("__debug__" : Str)) = false := by decide) (he : starEach (e :: es) X.env = (false, eval e X.env) :: starEach es X.env := by rfl) (hpl : (backTo pos (starEach es X.env)).any (·.1) = false := by rfl) :
    PE X (.Call (.Name x p) (e :: es) [] pos) (tCall promise [] E t) := by
  refine ⟨fun pins s σ H Q I h => wpAny_Call_Name_kw (ld_glob I hg hm (PySem.W.callWith_K (h₀ := X.base) I.ok.mod.kin hk (thn (ha.run pos pins s σ H _ I h) fun us s1 z => ?_) he hpl) hdb)⟩
  obtain ⟨vals, H1, I1, rel, asked⟩ := z
  refine ⟨I1.kIn, ?_⟩
  have rel0 : Vals (vals ++ []) (us ++ []) := rel.append .nil
  have lens : (us ++ []).length = ps.length := by rw [← rel0.length]; exact F.long _ _ _ _ asked
  refine wpAny_call (codeAny_mono (F.goes X.A X.stack s1 H1 ⟨us, []⟩ (us ++ []) (vals ++ []) Q E noRepr room I1.env0 (hb s1 us I1.kIn lens) rel0 asked) fun r s2 ends => ?_)
  cases r with
  | error err => exact hx pins σ H1 s1 err s2 I1 ends
  | ok fl =>
    cases fl with
    | ret u => exact I1.after ends
    | next => exact False.elim ends
    | brk => exact False.elim ends
    | cont => exact False.elim ends
/-- repr of data: a text that hangs on the data alone -/
def rRepr (K : PySem.W.Frag) : List V → Hp → VK → Prop := fun xs H Q => ∃ (a : Addr) (d : PyData), xs = [.ref a] ∧ Dp K H (.ref a) d ∧ d.showable = true ∧ d.hasDict = false ∧ d.depth ≤ 50 ∧ d.shown.length ≤ sizeLine ∧ Q (.str d.shown) H
theorem call_repr (noRepr : X.A.guards = some []) (hu : X.A.units + 64 < cLine) : CallR X (.builtin "repr") (rRepr X.K) := by
  intro pins s σ H xs us Q I r h
  obtain ⟨a, d, rfl, hd, h1, h2, h3, h4, q⟩ := h
  obtain ⟨u, rfl, ru⟩ := vals1 r
  obtain rfl : u = Value.ref a := ru
  obtain ⟨as, rd⟩ := Dp.reads I d (.ref a) (.ref a) hd rfl
  refine repr_of_reads' rd h1 (fun z => by rw [h2] at z; cases z) noRepr (by omega) (fun _ _ e => e) (fun h' t tk keep => ?_) h4
  exact ⟨.str d.shown, H, I.kept (t' := tk) keep, ⟨_, rfl⟩, q⟩
end
end Rp

/-! Sets whose members are keys on the heap (tuples of texts, nested ones), fewer than 64. -/
namespace Rp
open PySem PySem.Spec PyProof.Rows L2
/-- what a kind of keys on the heap brings along, to stand in a set -/
structure SetKey {P : Program} {w : World} {K : Type} [DecidableEq K] (kd : HeapKind P w K) : Prop where
  same : ∀ {h h' : Heap} {k : K} {a : Addr}, (∀ b o vs n, h.get? b = some o → o.data = .seq vs n → h'.get? b = some o) → kd.is h k a → kd.is h' k a
  noCl : ∀ {A : Around} {E : Value → Shared → Prop} {s : Shared} {k : K} {a : Addr} {Q : Bool → Shared → Prop}, kd.is s.heap k a → Q false s → wpAny (model P w) A (ofAClassStatement 8 (.ref a)) Q E s
  byVa : ∀ {A : Around} {E : Value → Shared → Prop} {s : Shared} {k : K} {a : Addr} {Q : Bool → Shared → Prop}, kd.is s.heap k a → (∀ b, Q b s) → wpAny (model P w) A (hashByValue 8 (.ref a)) Q E s
section
variable {P : Program} {w : World} {K : Type} [DecidableEq K] {kd : HeapKind P w K} {A : Around} {E : Value → Shared → Prop} {s : Shared}
/-- a member as the table keeps it -/
def mem1 (kd : HeapKind P w K) (p : Addr × K) : Int × Value := (kd.hash p.2, .ref p.1)
def mhs (kd : HeapKind P w K) (L : List (Addr × K)) : List Int := L.map fun p => kd.hash p.2
theorem mhs_len (L : List (Addr × K)) : (mhs kd L).length = L.length := List.length_map ..
/-- the c-th step of a hash's way -/
abbrev stp (m : Nat) (h : Int) (c : Nat) : SetTable.Probe := nth m (runAt m (SetTable.bits h % (m + 1)) (SetTable.bits h)) c
structure Members (kd : HeapKind P w K) (h : Heap) (a : Addr) (L : List (Addr × K)) (es : Array (Int × Value)) (ep : Nat) (t : SetTable) : Prop where
  at_ : ∃ o, h.get? a = some o ∧ o.ExactSet ∧ o.data = .set es ep t
  are : es.toList = L.map (mem1 kd)
  tab : TabOk t (mhs kd L)
  one : (L.map (·.2)).Nodup
  key : ∀ p ∈ L, kd.is h p.2 p.1
  led : w.params.followText "set-order" = true ∨ t.led = true
  low : L.length * 5 < t.mask * 3
  few : L.length < 64
section
variable {a : Addr} {L : List (Addr × K)} {es : Array (Int × Value)} {ep : Nat} {t : SetTable}
theorem are_size (e : es.toList = L.map (mem1 kd)) : es.size = L.length := by
  rw [← Array.length_toList, e, List.length_map]
theorem are_at (e : es.toList = L.map (mem1 kd)) {i : Nat} {p : Addr × K} (h : L[i]? = some p) : es[i]? = some (kd.hash p.2, Value.ref p.1) := by
  have q : es.toList[i]? = some (mem1 kd p) := by rw [e, List.getElem?_map, h]; rfl
  rw [← Array.getElem?_toList]; exact q
theorem fits_of {n : Nat} (h1 : t.place.size = n) (h2 : t.dummies = #[]) (h3 : n ≤ t.mask) : t.fits n = true := by
  simp only [SetTable.fits, SetTable.fill, h2, h1, Bool.and_eq_true, beq_iff_eq, decide_eq_true_eq]
  exact ⟨trivial, by simpa using h3⟩
theorem Members.fit (R : Members kd s.heap a L es ep t) : t.fits es.size = true := by
  have h1 := R.tab.sz
  have h2 := R.low
  have h3 := are_size R.are
  rw [mhs_len] at h1
  exact fits_of (h1.trans h3.symm) R.tab.dm (by omega)
theorem Members.ngw (R : Members kd s.heap a L es ep t) : ¬ t.gaveWay = true := by
  have h := mask_odd R.tab.mok
  simp [SetTable.gaveWay, h]
theorem stp_dummy (m : Nat) (h : Int) (c : Nat) : (stp m h c).dummy = none := by
  have go : ∀ n (p : SetTable.Probe), p.dummy = none → (nth m p n).dummy = none := by
    intro n
    induction n with
    | zero => exact fun p e => e
    | succ n ih => exact fun p e => ih (adv m p) (by unfold adv; split <;> exact e)
  exact go c _ rfl
/-- no search among such keys shows the table -/
theorem unseen (SK : SetKey kd) {k : K} {b : Addr} {Q : Bool → Shared → Prop} (hk : kd.is s.heap k b) {ys : List Value} (hy : ∀ y ∈ ys, ∃ k' c, y = Value.ref c ∧ kd.is s.heap k' c) (h : Q false s) :
    wpAny (model P w) A (searchCouldBeSeen (.ref b) ys) Q E s := by
  unfold searchCouldBeSeen
  refine wpAny_bind (wpAny_forIn_list _ (fun todo r z => r.1 = none ∧ z = s ∧ ∀ y ∈ todo, ∃ k' c, y = Value.ref c ∧ kd.is s.heap k' c) _ ?_ ?_ _ _ ⟨rfl, rfl, hy⟩)
  · rintro v todo r z ⟨_, rfl, al⟩
    have al' := fun u hu => al u (List.mem_cons_of_mem v hu)
    obtain ⟨k', c, rfl, hc⟩ := al v List.mem_cons_self
    dsimp only
    by_cases hv : (b == c || (carriedByValue (.ref b) && carriedByValue (.ref c))) = true
    · exact wp_if_pos hv (wpAny_pure ⟨rfl, rfl, al'⟩)
    · refine wp_if_neg hv (wpAny_bind (kd.quiet hk ?_))
      simp only [Bool.not_true, Bool.false_eq_true, if_false]
      refine wpAny_bind (kd.quiet hc ?_)
      simp only [Bool.not_true, Bool.false_eq_true, if_false]
      refine wpAny_bind (SK.noCl hk ?_)
      simp only [Bool.false_eq_true, if_false]
      refine wpAny_bind (SK.noCl hc ?_)
      simp only [Bool.false_eq_true, if_false]
      exact wpAny_pure ⟨rfl, rfl, al'⟩
  · rintro ⟨r1, r2⟩ z ⟨hr, rfl, _⟩
    cases hr
    exact wpAny_pure h

/-- the way of k's hash in t ends at its K-th step, the first free place -/
structure Ends (kd : HeapKind P w K) (t : SetTable) (k : K) (N : Nat) : Prop where
  lt : N < 10 * SetTable.turns t.mask
  out : way t.mask (kd.hash k) N ∉ t.place.toList
  in_ : ∀ c, c < N → way t.mask (kd.hash k) c ∈ t.place.toList
/-- the members that are k still lie ahead of step c -/
def Ahead (kd : HeapKind P w K) (t : SetTable) (k : K) (N c : Nat) (L : List (Addr × K)) : Prop :=
  ∀ (i : Nat) p, L[i]? = some p → p.2 = k → ∃ d, c ≤ d ∧ d < N ∧ t.place.toList[i]? = some (way t.mask (kd.hash k) d)

theorem seek (SK : SetKey kd) (R : Members kd s.heap a L es ep t) {x : Addr} {k : K} (hx : kd.is s.heap k x) (hu : kd.room A) {N : Nat} (W : Ends kd t k N) {Q : SetFound → Shared → Prop}
    (yes : k ∈ L.map (·.2) → Q (.there none) s) (no : k ∉ L.map (·.2) → Q (.free (way t.mask (kd.hash k) N) false) s) :
    ∀ (f c : Nat) (st : Option SetTable.Probe), st.getD (t.probeStart (kd.hash k)) = stp t.mask (kd.hash k) c → c ≤ N → N - c < f → Ahead kd t k N c L →
      wpAny (model P w) A (setSearchFrom a (.ref x) (kd.hash k) true f st) Q E s := by
  intro f
  induction f with
  | zero => exact fun c st _ _ h => absurd h (Nat.not_lt_zero _)
  | succ f ih =>
    intro c st est hc hf ahead
    obtain ⟨o, ho, hex, hd⟩ := R.at_
    rw [setSearchFrom_succ]
    refine wpAny_bind (wpAny_setState_of ho hd R.fit ?_)
    dsimp only
    refine wp_if_neg R.ngw ?_
    try refine wpAny_bind (wpAny_pure ?_)
    have sh : ∀ q, nth t.mask (stp t.mask (kd.hash k) c) q = stp t.mask (kd.hash k) (c + q) := fun q => (nth_add t.mask c _ q).symm
    have shj : ∀ q, (nth t.mask (stp t.mask (kd.hash k) c) q).j = way t.mask (kd.hash k) (c + q) := fun q => by rw [sh]
    have eN : c + (N - c) = N := by omega
    have G := go_spec t R.tab.ris R.tab.dm (fun i => (es[i]?.map (·.1)).getD 0) (kd.hash k) (10 * SetTable.turns t.mask) (N - c) _ (stp_dummy t.mask (kd.hash k) c) (by have := W.lt; omega)
      (fun q hq => by rw [shj]; exact W.in_ _ (by omega)) (by rw [shj, eN]; exact W.out)
    have hAt : ∀ (i : Nat) p, L[i]? = some p → (es[i]?.map (·.1)).getD 0 = kd.hash p.2 := fun i p hp => by rw [are_at R.are hp]; rfl
    rcases G with ⟨q, i, hq, hi, hh, miss, hpr⟩ | ⟨miss, hpr⟩
    · have hpr' : t.probe (fun i => (es[i]?.map (·.1)).getD 0) (kd.hash k) (st.getD (t.probeStart (kd.hash k))) = some (.candidate (way t.mask (kd.hash k) (c + q)) i (stp t.mask (kd.hash k) (c + (q + 1)))) := by
        rw [est, ← shj, ← sh]; exact hpr
      rw [hpr']
      dsimp only
      rw [shj] at hi
      have hil : i < L.length := by
        have l1 := (List.getElem?_eq_some_iff.mp hi).1
        have l2 := R.tab.sz
        rw [mhs_len] at l2
        rw [Array.length_toList] at l1
        omega
      obtain ⟨p, hp⟩ : ∃ p, L[i]? = some p := ⟨_, List.getElem?_eq_getElem hil⟩
      have hpm : p ∈ L := List.mem_of_getElem? hp
      have live : t.slot (way t.mask (kd.hash k) (c + q)) = .live i := slot_live R.tab.ris hi
      have tail : wpAny (model P w) A (searchRest a (.ref x) (kd.hash k) true f es t (way t.mask (kd.hash k) (c + q)) i (stp t.mask (kd.hash k) (c + (q + 1)))) Q E s := by
        unfold searchRest
        rw [are_at R.are hp]
        dsimp only
        refine wpAny_bind (wpAny_holding (kd.eqBool hu (R.key p hpm) hx ?_))
        refine wpAny_bind (wpAny_setState_of ho hd R.fit ?_)
        dsimp only
        by_cases hkk : p.2 = k
        · exact wp_if_pos (by simp [hkk]) (wpAny_pure (yes (List.mem_map.mpr ⟨p, hpm, hkk⟩)))
        · refine wp_if_neg (by simp [hkk]) ?_
          try refine wpAny_bind (wpAny_pure ?_)
          rw [sameMem]
          dsimp only
          simp only [if_true, live, are_at R.are hp]
          refine wpAny_bind (wpAny_isSame_ref_self (wpAny_bind (wpAny_pure ?_)))
          simp only [if_true]
          refine wp_if_neg (by simp [hkk]) (ih (c + (q + 1)) _ rfl (by omega) (by omega) ?_)
          intro i0 p0 h0 hk0
          obtain ⟨d, d1, d2, d3⟩ := ahead i0 p0 h0 hk0
          refine ⟨d, ?_, d2, d3⟩
          rcases Nat.lt_trichotomy d (c + q) with z | z | z
          · refine absurd ?_ (miss (d - c) i0 (by omega) (by rw [shj, show c + (d - c) = d by omega]; exact d3))
            show (es[i0]?.map (·.1)).getD 0 = kd.hash k
            rw [hAt i0 p0 h0, hk0]
          · rw [z] at d3
            have s0 := slot_live R.tab.ris d3
            rw [live] at s0
            cases s0
            rw [hp] at h0
            cases h0
            exact absurd hk0 hkk
          · omega
      by_cases hl : t.led = true
      · refine wp_if_neg (by simp [hl]) ?_
        try refine wpAny_bind (wpAny_pure ?_)
        exact tail
      · refine wp_if_pos (by simp [hl]) (wpAny_bind (unseen SK hx (fun y hy => ?_) ?_))
        · obtain ⟨e, he, rfl⟩ := List.mem_map.mp hy
          have he2 : e ∈ es.toList := by
            have : e ∈ es ∧ e.1 = kd.hash k := by simpa using he
            simpa using this.1
          rw [R.are] at he2
          obtain ⟨p2, hp2, rfl⟩ := List.mem_map.mp he2
          exact ⟨p2.2, p2.1, rfl, R.key p2 hp2⟩
        · refine wp_if_neg (by decide) ?_
          try refine wpAny_bind (wpAny_pure ?_)
          exact tail
    · have hpr' : t.probe (fun i => (es[i]?.map (·.1)).getD 0) (kd.hash k) (st.getD (t.probeStart (kd.hash k))) = some (.empty (way t.mask (kd.hash k) N) none) := by
        rw [est, show way t.mask (kd.hash k) N = (nth t.mask (stp t.mask (kd.hash k) c) (N - c)).j by rw [shj, eN]]
        exact hpr
      rw [hpr']
      dsimp only
      refine wpAny_pure (no fun hm => ?_)
      obtain ⟨p0, m0, hk0⟩ := List.mem_map.mp hm
      obtain ⟨i0, h0⟩ := List.mem_iff_getElem?.mp m0
      obtain ⟨d, d1, d2, d3⟩ := ahead i0 p0 h0 hk0
      refine absurd ?_ (miss (d - c) i0 (by omega) (by rw [shj, show c + (d - c) = d by omega]; exact d3))
      show (es[i0]?.map (·.1)).getD 0 = kd.hash k
      rw [hAt i0 p0 h0, hk0]

theorem sought (SK : SetKey kd) (R : Members kd s.heap a L es ep t) {x : Addr} {k : K} (hx : kd.is s.heap k x) (hu : kd.room A) {Q : SetFound → Shared → Prop}
    (yes : k ∈ L.map (·.2) → Q (.there none) s) (no : ∀ N, k ∉ L.map (·.2) → Ends kd t k N → Q (.free (way t.mask (kd.hash k) N) false) s) :
    wpAny (model P w) A (setSearch a (.ref x) (kd.hash k) true) Q E s := by
  have hlow := R.low
  obtain ⟨N, e1, e2, e3⟩ := R.tab.first (by rw [mhs_len]; omega) (kd.hash k)
  have hN : N < 100000 := by
    have : 10 * SetTable.turns t.mask ≤ 1420 := by
      unfold SetTable.turns
      rcases R.tab.mok with e | e | e <;> omega
    omega
  unfold setSearch
  refine seek SK R hx hu ⟨e1, e2, e3⟩ yes (fun hn => no N hn ⟨e1, e2, e3⟩) 100000 0 none rfl (Nat.zero_le _) hN fun i p hp hk => ?_
  have hi : (mhs kd L)[i]? = some (kd.hash k) := by
    unfold mhs
    rw [List.getElem?_map, hp, ← hk]; rfl
  have hil : i < t.place.toList.length := by
    have l1 := (List.getElem?_eq_some_iff.mp hp).1
    have l2 := R.tab.sz
    rw [mhs_len] at l2
    rw [Array.length_toList, l2]
    exact l1
  obtain ⟨c, hc, e⟩ := R.tab.before e2 hi (List.getElem?_eq_getElem hil)
  exact ⟨c, Nat.zero_le _, hc, by rw [List.getElem?_eq_getElem hil, e]⟩

/-! ### the table laid anew -/
theorem SetKey.but (SK : SetKey kd) {h h' : Heap} {k : K} {b : Addr} {o : Obj} (hb : kd.is h k b) (ho : h.get? a = some o) (hd : o.data = .set es ep t) (hs : Heap.SameBut a h h') : kd.is h' k b :=
  SK.same (fun c u vs n hc hu => (hs.2 c (by
    rintro rfl
    rw [ho] at hc
    cases hc
    rw [hd] at hu
    cases hu)).trans hc) hb
theorem SetKey.grown (SK : SetKey kd) {h h' : Heap} {k : K} {b : Addr} (hb : kd.is h k b) (hk : ∀ c o, h.get? c = some o → h'.get? c = some o) : kd.is h' k b := SK.same (fun c o _ _ hc _ => hk c o hc) hb
theorem ordered (order : Array Nat) (hr : es.toList = L.map (mem1 kd)) (hp : order.toList.Perm (List.range L.length)) :
    ∃ M, (order.filterMap (es[·]?)).toList = M.map (mem1 kd) ∧ M.Perm L ∧ mhs kd M = order.toList.map fun i => (es.map (·.1)).getD i 0 := by
  refine ⟨order.toList.filterMap (fun i => L[i]?), ?_, ?_, ?_⟩
  · rw [Array.toList_filterMap, List.map_filterMap]
    congr 1
    funext i
    show es[i]? = (L[i]?).map (mem1 kd)
    rw [← Array.getElem?_toList, hr, List.getElem?_map]
  · refine (hp.filterMap _).trans ?_
    have go : ∀ n, n ≤ L.length → (List.range n).filterMap (fun i => L[i]?) = L.take n := by
      intro n
      induction n with
      | zero => exact fun _ => rfl
      | succ n ih =>
        intro hn
        have hlt : n < L.length := hn
        rw [List.range_succ, List.filterMap_append, ih (Nat.le_of_lt hlt), List.take_succ]
        simp [List.getElem?_eq_getElem hlt]
    rw [go L.length (Nat.le_refl _), List.take_length]
  · have go : ∀ l : List Nat, (∀ i ∈ l, i < L.length) → mhs kd (l.filterMap fun i => L[i]?) = l.map fun i => (es.map (·.1)).getD i 0 := by
      intro l
      induction l with
      | nil => exact fun _ => rfl
      | cons i l ih =>
        intro hl
        have hi := hl i List.mem_cons_self
        have e5 : (es.map (·.1))[i]? = some (kd.hash (L[i]).2) := by
          rw [Array.getElem?_map, are_at hr (List.getElem?_eq_getElem hi)]; rfl
        rw [List.filterMap_cons_some (List.getElem?_eq_getElem hi), List.map_cons, ← ih fun j hj => hl j (List.mem_cons_of_mem _ hj), Array.getD_eq_getD_getElem?, e5]
        rfl
    exact go order.toList fun i hi => List.mem_range.mp (hp.mem_iff.mp hi)
theorem laidAnew (SK : SetKey kd) {o : Obj} (ho : s.heap.get? a = some o) (hex : o.ExactSet) (hd : o.data = .set es ep t) (hr : es.toList = L.map (mem1 kd)) (hsz : t.place.size = es.size) (hdm : t.dummies = #[]) (hfl : es.size ≤ t.mask)
    (nd : (L.map (·.2)).Nodup) (ks : ∀ p ∈ L, kd.is s.heap p.2 p.1) (ld : w.params.followText "set-order" = true ∨ t.led = true) (few : L.length < 64) {wanted M : Nat}
    (hw : SetTable.sizeAbove wanted - 1 = M) (hM : MaskOk M) (hw2 : SetTable.sizeAbove wanted ≤ 128) (hn : L.length * 5 < M * 3) {Q : Unit → Shared → Prop}
    (hQ : ∀ h' L' es' ep' t', Heap.SameBut a s.heap h' → Members kd h' a L' es' ep' t' → L'.Perm L → Q () { s with heap := h' }) : wpAny (model P w) A (setRelay a wanted) Q E s := by
  have hsl := are_size hr
  obtain ⟨t', order, e, hp, T, em, el, epl, _⟩ := relaid_ok t (hs := es.map (·.1)) (wanted := wanted) hw hM (by rw [Array.size_map, hsl]; omega)
  rw [Array.size_map, hsl] at hp
  obtain ⟨M2, r1, r2, r3⟩ := ordered order hr hp
  rw [← r3] at T
  have hs2 : (order.filterMap (es[·]?)).size = es.size := by rw [are_size r1, r2.length_eq, hsl]
  rw [setRelay_eq]
  refine wpAny_bind (wpAny_setState_of ho hd (fits_of hsz hdm hfl) ?_)
  dsimp only
  refine wp_if_neg (by rw [sizeLine_eq]; omega) ?_
  try refine wpAny_bind (wpAny_pure ?_)
  rw [e]
  dsimp only
  refine wpAny_bind (wp_if_neg (by rw [hs2]; simp) ?_)
  try refine wpAny_bind (wpAny_pure ?_)
  refine wpAny_pure ?_
  dsimp only
  refine wpAny_storeSet_of ho hd ?_ (by rw [hs2, hsl, sizeLine_eq]; omega)
  have sb : Heap.SameBut a s.heap (s.heap.update a (Obj.putSet (order.filterMap (es[·]?)) t')) := Heap.SameBut.update ..
  exact hQ _ M2 (order.filterMap (es[·]?)) (ep + 1) t' sb ⟨⟨_, store_at ho hd, ⟨hex.1, hex.2.1, hex.2.2⟩, rfl⟩, r1, T, (r2.map (·.2)).nodup_iff.mpr nd, fun p hpm => SK.but (ks p (r2.mem_iff.mp hpm)) ho hd sb,
    el ▸ ld, by rw [r2.length_eq, em]; exact hn, by rw [r2.length_eq]; exact few⟩ r2
theorem mid_perm {α : Type} (l : List α) (p : Nat) (x : α) : (l.take p ++ x :: l.drop p).Perm (x :: l) := by
  simpa [List.take_append_drop] using (List.perm_middle : (l.take p ++ x :: l.drop p).Perm (x :: (l.take p ++ l.drop p)))
/-- one more, or it's there -/
theorem added (SK : SetKey kd) (R : Members kd s.heap a L es ep t) {x : Addr} {k : K} (hx : kd.is s.heap k x) (hu : kd.room A) (hfew : L.length + 1 < 64) {Q : Bool → Shared → Prop}
    (hQ : ∀ b h' L' es' ep' t', Heap.SameBut a s.heap h' → Members kd h' a L' es' ep' t' → (k ∈ L.map (·.2) → L' = L) → (k ∉ L.map (·.2) → L'.Perm ((x, k) :: L)) → Q b { s with heap := h' }) :
    wpAny (model P w) A (setAddHashed a (.ref x) (kd.hash k)) Q E s := by
  have hlow := R.low
  have hsl := are_size R.are
  obtain ⟨o, ho, hex, hd⟩ := R.at_
  unfold setAddHashed
  refine wpAny_holding ?_
  rw [show (100000 : Nat) = 99999 + 1 from rfl, setAddHashedIn_succ]
  refine wpAny_bind (wpAny_setState_of ho hd R.fit ?_)
  dsimp only
  refine wp_if_neg (by simp [byScan, Value.scannable]) ?_
  try refine wpAny_bind (wpAny_pure ?_)
  refine wpAny_bind (sought SK R hx hu (fun hm => ?_) fun N hm W => ?_)
  · exact wpAny_pure (hQ false s.heap L es ep t (Heap.SameBut.refl a s.heap) R (fun _ => rfl) fun z => absurd hm z)
  · dsimp only
    refine wpAny_bind (wpAny_setState_of ho hd R.fit ?_)
    dsimp only
    obtain ⟨q1, q2, q3, q4, q5, q6, q7, q8, q9⟩ := R.tab.put W.out W.in_
    rw [mhs_len] at q9
    generalize t.put (way t.mask (kd.hash k) N) = pt at q1 q3 q4 q5 q6 q7 q8 q9 ⊢
    obtain ⟨t0, p⟩ := pt
    dsimp only at q1 q3 q4 q5 q6 q7 q8 q9 ⊢
    subst q1
    -- by value or not: the table is the same but for that
    have cut : ∀ {S : Bool → Sem Bool}, (∀ b, wpAny (model P w) A (S b) Q E s) → wpAny (model P w) A (if t0.plain = true then hashByValue 8 (.ref x) >>= S else pure true >>= S) Q E s := fun hS => by
      by_cases hpl : t0.plain = true
      · exact wp_if_pos hpl (wpAny_bind (SK.byVa hx hS))
      · exact wp_if_neg hpl (wpAny_bind (wpAny_pure (hS true)))
    refine cut fun bv => ?_
    obtain ⟨t1, et⟩ : ∃ t1, t1 = (if bv = true then t0 else { t0 with plain := false }) := ⟨_, rfl⟩
    rw [← et]
    have et3 : TabOk t1 ((mhs kd L).take (SetTable.below t.place (way t.mask (kd.hash k) N)) ++ kd.hash k :: (mhs kd L).drop (SetTable.below t.place (way t.mask (kd.hash k) N))) := by
      cases bv
      · subst et; exact ⟨q3.ris, q3.dm, q3.sz, q3.mok, q3.bd, q3.reach⟩
      · subst et; exact q3
    have et4 : t1.mask = t.mask := by cases bv <;> subst et <;> exact q4
    have et5 : t1.led = t.led := by cases bv <;> subst et <;> exact q5
    have et9 : t1.fill = L.length + 1 := by cases bv <;> subst et <;> exact q9
    clear et q3 q4 q5 q6 q7 q8 q9
    have q3 := et3
    have q4 := et4
    have q5 := et5
    have q9 := et9
    clear et3 et4 et5 et9
    generalize SetTable.below t.place (way t.mask (kd.hash k) N) = p at q2 q3 ⊢
    have pm := mid_perm L p (x, k)
    have hin : (SetTable.insertAt es p (kd.hash k, Value.ref x)).toList = (L.take p ++ (x, k) :: L.drop p).map (mem1 kd) := by
      rw [SetTable.toList_insertAt, R.are, List.map_append, List.map_cons, List.map_take, List.map_drop]; rfl
    have hhs : mhs kd (L.take p ++ (x, k) :: L.drop p) = (mhs kd L).take p ++ kd.hash k :: (mhs kd L).drop p := by
      unfold mhs
      rw [List.map_append, List.map_cons, List.map_take, List.map_drop]
    rw [← hhs] at q3
    have nd1 : ((L.take p ++ (x, k) :: L.drop p).map (·.2)).Nodup := (pm.map (·.2)).nodup_iff.mpr (by rw [List.map_cons]; exact List.nodup_cons.mpr ⟨hm, R.one⟩)
    generalize SetTable.insertAt es p (kd.hash k, Value.ref x) = es1 at hin ⊢
    generalize L.take p ++ (x, k) :: L.drop p = L1 at pm q3 nd1 hin
    have hlen : L1.length = L.length + 1 := pm.length_eq
    have hes : es1.size = L.length + 1 := (are_size hin).trans hlen
    refine wpAny_bind (wpAny_storeSet_of ho hd ?_ (by rw [hes, sizeLine_eq]; omega))
    have sb : Heap.SameBut a s.heap (s.heap.update a (Obj.putSet es1 t1)) := Heap.SameBut.update ..
    have ho1 := store_at (es' := es1) (t' := t1) ho hd
    generalize s.heap.update a (Obj.putSet es1 t1) = h1 at sb ho1 ⊢
    have ks1 : ∀ p ∈ L1, kd.is h1 p.2 p.1 := fun p hp => by
      rcases List.mem_cons.mp (pm.mem_iff.mp hp) with rfl | hp
      · exact SK.but hx ho hd sb
      · exact SK.but (R.key p hp) ho hd sb
    have ld1 : w.params.followText "set-order" = true ∨ t1.led = true := q5 ▸ R.led
    by_cases hf : t1.tooFull = true
    · first
        | (refine wpAny_bind ?_; refine wp_if_pos (by simp [hf]) ?_)
        | (refine wp_if_pos (by simp [hf]) ?_; refine wpAny_bind ?_)
      have full : (L.length + 1) * 5 ≥ t1.mask * 3 := by
        have z := hf
        unfold SetTable.tooFull at z
        rwa [decide_eq_true_eq, q9] at z
      rw [hsl]
      have hsz1 : t1.place.size = es1.size := by
        have z := q3.sz
        rwa [mhs_len, hlen, ← hes] at z
      rw [q4] at full
      have two : (t.mask = 7 ∧ L.length = 4) ∨ (t.mask = 31 ∧ L.length = 18) := by
        rcases R.tab.mok with e | e | e <;> rw [e] at full hlow
        · exact .inl ⟨e, by omega⟩
        · exact .inr ⟨e, by omega⟩
        · omega
      have go : ∀ M, SetTable.sizeAbove (SetTable.grown (L.length + 1)) - 1 = M → MaskOk M → SetTable.sizeAbove (SetTable.grown (L.length + 1)) ≤ 128 → (L.length + 1) * 5 < M * 3 →
          wpAny (model P w) A (setRelay a (SetTable.grown (L.length + 1))) (fun _ s' => wpAny (model P w) A (pure true) Q E s') E { s with heap := h1 } := fun M g1 g2 g3 g4 =>
        laidAnew SK (s := { s with heap := h1 }) ho1 ⟨hex.1, hex.2.1, hex.2.2⟩ rfl hin hsz1 q3.dm (by rw [hes, q4]; rcases two with ⟨e, _⟩ | ⟨e, _⟩ <;> omega) nd1 ks1 ld1 (by rw [hlen]; exact hfew) g1 g2 g3 (by rw [hlen]; exact g4)
          fun h2 L2 es2 ep2 t2 sb2 R2 pm2 => wpAny_pure (hQ true h2 L2 es2 ep2 t2 (sb.trans sb2) R2 (fun z => absurd z hm) fun _ => pm2.trans pm)
      rcases two with ⟨_, e2⟩ | ⟨_, e2⟩
      · exact go 31 (by rw [e2, size_20]) (.inr (.inl rfl)) (by rw [e2, size_20]; decide) (by omega)
      · exact go 127 (by rw [e2, size_76]) (.inr (.inr rfl)) (by rw [e2, size_76]; decide) (by omega)
    · first
        | refine wp_if_neg (by simp [hf]) ?_
        | (refine wpAny_bind ?_; refine wp_if_neg (by simp [hf]) ?_; refine wpAny_pure ?_)
      have low1 : L1.length * 5 < t1.mask * 3 := by
        have z := hf
        unfold SetTable.tooFull at z
        rw [decide_eq_true_eq, q9] at z
        omega
      exact wpAny_pure (hQ true h1 L1 es1 (ep + 1) t1 sb ⟨⟨_, ho1, ⟨hex.1, hex.2.1, hex.2.2⟩, rfl⟩, hin, q3, nd1, ks1, ld1, low1, by rw [hlen]; exact hfew⟩ (fun z => absurd z hm) fun _ => pm)
/-! ### set(xs) -/
/-- what stands in the set of the first i -/
structure Took (ks : List (Addr × K)) (i : Nat) (L : List (Addr × K)) : Prop where
  from_ : ∀ p ∈ L, p ∈ ks.take i
  all_ : ∀ p ∈ ks.take i, p.2 ∈ L.map (·.2)
  most : L.length ≤ i
theorem Took.next {ks L L' : List (Addr × K)} {i : Nat} {x : Addr × K} (g : Took ks i L) (h : ks[i]? = some x) (h1 : x.2 ∈ L.map (·.2) → L' = L) (h2 : x.2 ∉ L.map (·.2) → L'.Perm (x :: L)) : Took ks (i + 1) L' := by
  have e : ks.take (i + 1) = ks.take i ++ [x] := by rw [List.take_succ, h]; rfl
  by_cases c : x.2 ∈ L.map (·.2)
  · rw [h1 c]
    refine ⟨fun p hp => ?_, fun p hp => ?_, Nat.le_succ_of_le g.most⟩
    · rw [e]; exact List.mem_append_left _ (g.from_ p hp)
    · rw [e] at hp
      rcases List.mem_append.mp hp with z | z
      · exact g.all_ p z
      · rw [List.mem_singleton.mp z]; exact c
  · have pm := h2 c
    refine ⟨fun p hp => ?_, fun p hp => ?_, by rw [pm.length_eq]; exact Nat.succ_le_succ g.most⟩
    · rw [e]
      rcases List.mem_cons.mp (pm.mem_iff.mp hp) with rfl | z
      · exact List.mem_append_right _ (List.mem_singleton.mpr rfl)
      · exact List.mem_append_left _ (g.from_ p z)
    · rw [(pm.map (·.2)).mem_iff, List.map_cons]
      rw [e] at hp
      rcases List.mem_append.mp hp with z | z
      · exact List.mem_cons_of_mem _ (g.all_ p z)
      · rw [List.mem_singleton.mp z]; exact List.mem_cons_self
theorem Members.kept {h h' : Heap} (R : Members kd h a L es ep t) (ha : ∀ o, h.get? a = some o → h'.get? a = some o) (hk : ∀ p ∈ L, kd.is h' p.2 p.1) : Members kd h' a L es ep t :=
  let ⟨o, ho, r⟩ := R.at_
  ⟨⟨o, ha o ho, r⟩, R.are, R.tab, R.one, hk, R.led, R.low, R.few⟩
theorem Members.bare {h : Heap} (ho : h.get? a = some { cls := .type "set", dict := none, data := .set #[] 0 (.fresh 0 0 (!w.params.followText "set-order")) }) : Members kd h a [] #[] 0 (.fresh 0 0 (!w.params.followText "set-order")) :=
  ⟨⟨_, ho, ⟨rfl, rfl, rfl⟩, rfl⟩, rfl, ⟨List.Pairwise.nil, rfl, rfl, .inl rfl, fun _ hx => (by cases hx), fun i _ _ hi => (by simp [mhs] at hi)⟩, List.nodup_nil, fun _ hp => (by cases hp),
    (by show _ ∨ (!w.params.followText "set-order") = true; cases w.params.followText "set-order" <;> simp), by show 0 * 5 < 7 * 3; decide, by show 0 < 64; decide⟩
/-- the loop that fills it -/
theorem filling (SK : SetKey kd) {I : Addr} {fp wr : List Addr} {G : Array GenState → Array GenState → Prop} {n : Nat} {Pv : Nat → Value → Prop} {St : Nat → Shared → Prop} {R : Result → Shared → Prop}
    (W : WalksS P w A.in1 I fp wr G n Pv St) (S : Addr) (hSf : S ∉ fp) (ks : List (Addr × K)) (hn : n = ks.length) (hfew : ks.length < 64) (hval : ∀ i v, Pv i v → ∃ p, ks[i]? = some p ∧ v = .ref p.1)
    (h0 : Heap) (hk : ∀ p ∈ ks, kd.is h0 p.2 p.1) (hS0 : h0.get? S = none) (hw0 : ∀ b ∈ wr, h0.get? b = none) (hu : kd.room A.in1) :
    ∀ (k i : Nat) (s : Shared), n - i = k → i ≤ n → St i s → (∀ b o, h0.get? b = some o → s.heap.get? b = some o) → (∃ L es ep t, Members kd s.heap S L es ep t ∧ Took ks i L) →
      (∀ s' L es ep t, Moved (S :: wr) G s s' → Members kd s'.heap S L es ep t → Took ks n L → (∀ b o, h0.get? b = some o → s'.heap.get? b = some o) → R (.ok (.ret .none)) s') →
      codeAny (model P w) A (.builtin "set.update.loop" ⟨[.ref S, .ref I], []⟩) R s := by
  have hSw : S ∉ wr := fun h => hSf (W.sub _ h)
  have mono : ∀ b ∈ wr, b ∈ S :: wr := fun b hb => List.mem_cons_of_mem _ hb
  have on : ∀ {s s' : Shared}, Moved wr G s s' → (∀ b o, h0.get? b = some o → s.heap.get? b = some o) → ∀ b o, h0.get? b = some o → s'.heap.get? b = some o := fun hm hkp b o e =>
    hm.heap b o (fun hb => by rw [hw0 b hb] at e; cases e) (hkp b o e)
  have put : ∀ {s s' : Shared} {i L es ep t}, Moved wr G s s' → Members kd s.heap S L es ep t → Took ks i L → (∀ b o, h0.get? b = some o → s'.heap.get? b = some o) → Members kd s'.heap S L es ep t := fun hm hS g kp =>
    hS.kept (fun o e => hm.heap S o hSw e) fun p hp => SK.grown (hk p (List.mem_of_mem_take (g.from_ p hp))) kp
  intro k
  induction k with
  | zero =>
    intro i s hk' hi hst hkp ⟨L, es, ep, t, hS, g⟩ hR
    obtain rfl : i = n := by omega
    refine codeAny_builtin F.entry_set_update_loop ?_
    rw [Around.under_plainId F.plain_set_update_loop _]
    show wpAny _ A.in1 (pyNext (.ref I) >>= _) _ _ s
    refine wpAny_bind (W.done s _ _ hst fun s' hm => ?_)
    have kp' := on hm hkp
    show wpAny _ A.in1 (ret Value.none) _ _ s'
    exact wpAny_pure (hR s' L es ep t (hm.mono mono) (put hm hS g kp') g kp')
  | succ k ih =>
    intro i s hk' hi hst hkp ⟨L, es, ep, t, hS, g⟩ hR
    have hlt : i < n := by omega
    refine codeAny_builtin F.entry_set_update_loop ?_
    rw [Around.under_plainId F.plain_set_update_loop _]
    show wpAny _ A.in1 (pyNext (.ref I) >>= _) _ _ s
    refine wpAny_bind (W.item i s _ _ hlt hst fun v s' hP hst' hm => ?_)
    obtain ⟨p, hp, rfl⟩ := hval i v hP
    have kp' := on hm hkp
    have hS' := put hm hS g kp'
    have hx : kd.is s'.heap p.2 p.1 := SK.grown (hk p (List.mem_of_getElem? hp)) kp'
    show wpAny _ A.in1 (holding [Value.ref p.1] (setAdd S (.ref p.1)) >>= _) _ _ s'
    refine wpAny_bind (wpAny_holding ?_)
    unfold setAdd
    refine wpAny_holding (wpAny_bind (kd.pyHash hu hx ?_))
    refine added SK (s := { s' with toks := s'.toks + kd.draws p.2 }) hS' hx hu (by have := g.most; omega) fun b h' L' es' ep' t' hsb hS2 c1 c2 => ?_
    have kp2 : ∀ b o, h0.get? b = some o → h'.get? b = some o := fun b o e => (hsb.2 b (fun z => by rw [z, hS0] at e; cases e)).trans (kp' b o e)
    refine wpAny_pure ⟨plainId_quiet F.plain_set_update_loop _, ih (i + 1) _ (by omega) hlt (W.frame _ s' _ _ hst' (Nat.le_add_right _ _) fun b hb o e => ?_) kp2 ⟨L', es', ep', t', hS2, g.next hp c1 c2⟩ fun s'' L2 es2 ep2 t2 hm'' hS'' g'' kp'' => ?_⟩
    · rw [hsb.2 b (by rintro rfl; exact hSf hb)]; exact e
    · refine hR s'' L2 es2 ep2 t2 (Moved.trans W.gtrans ((hm.mono mono).then_heap (Nat.le_add_right _ _) fun b o hb e => ?_) hm'') hS'' g'' kp''
      rw [hsb.2 b (by rintro rfl; exact hb List.mem_cons_self)]; exact e
end
end
end Rp

/-! The call of set. -/
namespace Rp
open PySem PySem.Spec PyProof.Rows L2
section
variable {P : Program} {w : World} {K : Type} [DecidableEq K] {kd : HeapKind P w K} {A : Around} {E : Value → Shared → Prop} {s : Shared}
section
variable {a : Addr} {L : List (Addr × K)} {es : Array (Int × Value)} {ep : Nat} {t : SetTable}
/-- the bare set as it's first laid -/
abbrev bareSet (w : World) : Obj := { cls := .type "set", dict := none, data := .set #[] 0 (.fresh 0 0 (!w.params.followText "set-order")) }
set_option maxHeartbeats 8000000 in
theorem call_set (SK : SetKey kd) {l : Addr} {items : Array Value} (ks : List (Addr × K)) {Q : Value → Shared → Prop} (hh : A.handled = none) (hl : s.heap.IsList l items) (hit : items.toList = ks.map fun p => Value.ref p.1)
    (hk : ∀ p ∈ ks, kd.is s.heap p.2 p.1) (hfew : ks.length < 64) (hu : kd.room A.in1.in1.in1)
    (h : ∀ (h' : Heap) (tk : Nat) L es ep t, Members kd h' s.heap.objs.size L es ep t → Took ks ks.length L → (∀ b o, s.heap.get? b = some o → h'.get? b = some o) → Q (.ref s.heap.objs.size) { s with heap := h', toks := tk }) :
    wpAny (model P w) A (call (.type "set") [.ref l]) Q E s := by
  have hisz : items.size = ks.length := by rw [← Array.length_toList, hit, List.length_map]
  obtain ⟨c, tl, hmro⟩ := F.called_set.mro
  have hmade := F.called_set.made
  have hsub := F.called_set.sub
  refine wpAny_call (codeAny_of_tree ?_)
  show wpAny _ _ (callAny (.type "set") _) _ _ _
  refine wpAny_pure ⟨Code.quiet_builtin _ (by decide +kernel), codeAny_builtin F.entry_type_call ?_⟩
  rw [Around.under_plain (weight_type_call_type "set" [.ref l] []) rfl]
  have h1 := F.called_set.notType
  have h2 := F.called_set.canCreate
  have hct := F.typeCall_set_1 (.ref l)
  repeat (any_goals (first | assumption | wp_step))
  refine codeAny_mono (code_set_led1 (.ref l) (E := E) (Q₁ := fun obj s₁ => obj = .ref s.heap.objs.size ∧ s₁ = { s with heap := s.heap.push (bareSet w) }) ⟨rfl, rfl⟩) fun r s₁ hr => ?_
  cases r with
  | error e => exact hr
  | ok fl =>
    cases fl with
    | ret obj =>
      obtain ⟨rfl, rfl⟩ := hr
      have hS : (s.heap.push (bareSet w)).get? s.heap.objs.size = some (bareSet w) := Heap.get?_push_size _ rfl
      have hT : Shared.TypeIs { s with heap := s.heap.push (bareSet w) } (.ref s.heap.objs.size) "set" := ⟨_, hS, rfl⟩
      have hli := F.called_set.init.lookup
      have hbi := F.called_set.init.bind (.ref s.heap.objs.size)
      repeat (any_goals (first | assumption | wp_step))
      refine codeAny_mono (codeAny_call_builtin (R := wants (fun r s₂ => r = .none ∧ ∃ h' tk L es ep t, s₂ = { s with heap := h', toks := tk } ∧ Members kd h' s.heap.objs.size L es ep t ∧ Took ks ks.length L ∧
          (∀ b o, s.heap.get? b = some o → h'.get? b = some o)) E) F.called_set.init.plain F.entry_set_init (check_set_init_1 hT ?_)) fun r₂ s₂ hr₂ => ?_
      · obtain ⟨⟨ocls, odict, odata, oslots⟩, hol, hcl, nl, hdl⟩ := hl
        simp only at hcl hdl
        subst hcl; subst hdl
        have hol' : (s.heap.push (bareSet w)).get? l = some { cls := .type "list", dict := odict, data := .seq items nl, slots := oslots } := Heap.get?_push_of_some _ hol
        have hsls := F.sub_list_set
        have hslf := F.sub_list_frozenset
        have hne : (Value.type "list" == Value.type "dict") = false := by decide
        have hl1 : (s.heap.push (bareSet w)).IsList l items := ⟨_, hol', rfl, nl, rfl⟩
        unfold Builtin.«set.__init__» noKeywords Builtin.Frozenset.updateFrom
        generalize hPI : pyIter = PI
        wp_walk
        subst hPI
        refine wpAny_pyIter_list hl1 (wpAny_bind (wpAny_runValue ?_))
        have hlS : l < s.heap.objs.size := Heap.lt_size hol
        have hz1 : (s.heap.push (bareSet w)).objs.size = s.heap.objs.size + 1 := Heap.size_push ..
        have hh3 : A.in1.in1.in1.handled = none := by simp [hh]
        have hval : ∀ (i : Nat) (v : Value), items[i]? = some v → ∃ p, ks[i]? = some p ∧ v = .ref p.1 := fun i v hv => by
          rw [← Array.getElem?_toList, hit, List.getElem?_map] at hv
          cases hq : ks[i]? with
          | none => rw [hq] at hv; cases hv
          | some p => rw [hq] at hv; exact ⟨p, rfl, (Option.some.inj hv).symm⟩
        have fresh : ∀ b, s.heap.objs.size ≤ b → s.heap.get? b = none := fun b hb => by
          cases q : s.heap.get? b with
          | none => rfl
          | some o => exact absurd (Heap.lt_size q) (Nat.not_lt.mpr hb)
        refine filling SK ((Walks.list hh3 _ l (by rw [hz1]; exact Nat.ne_of_lt (Nat.lt_succ_of_lt hlS)) items).toS) s.heap.objs.size (by rw [hz1]; simp only [List.mem_cons, List.not_mem_nil, or_false, not_or]; exact ⟨Nat.ne_of_lt (Nat.lt_succ_self _), Nat.ne_of_gt hlS⟩)
          ks hisz hfew hval s.heap hk (fresh _ (Nat.le_refl _)) (fun b hb => fresh b (by rw [List.mem_singleton.mp hb, hz1]; omega)) hu (items.size - 0) 0 _ (by omega) (Nat.zero_le _)
          ⟨⟨_, Heap.get?_push_size _ rfl, rfl, rfl⟩, (hl1.push _)⟩ (fun b o e => Heap.get?_push_of_some _ (Heap.get?_push_of_some _ e)) ⟨[], #[], 0, _, Members.bare (Heap.get?_push_of_some _ hS), ⟨fun _ h => (by cases h), fun _ h => (by simp at h), Nat.le_refl _⟩⟩ ?_
        intro s' L es ep t hm hS' g' hkp
        obtain ⟨h', g2, d', tk', os'⟩ := s'
        obtain rfl : g2 = s.gens := hm.gens
        obtain rfl : d' = s.drawn := hm.drawn
        obtain rfl : os' = s.os := hm.os
        show wpAny _ _ _ _ _ _
        refine wpAny_pure ?_
        show wpAny _ _ (ret Value.none) _ _ _
        exact wpAny_pure ⟨rfl, h', tk', L, es, ep, t, rfl, hS', hisz ▸ g', hkp⟩
      · cases r₂ with
        | error e => exact hr₂
        | ok fl₂ =>
          cases fl₂ with
          | ret r =>
            obtain ⟨rfl, h', tk, L, es, ep, t, rfl, hS', g', hk'⟩ := hr₂
            repeat (any_goals (first | assumption | wp_step))
            exact h _ _ _ _ _ _ hS' g' hk'
          | _ => exact hr₂.elim
    | _ => exact hr.elim
end
end
end Rp

/-! Sets of tuples of texts; sorted of lists of data and of such sets. -/
namespace Rp
open PySem PySem.Spec PyProof.Rows L2 SrtO
section
variable {P : Program} {w : World} {A : Around} {E : Value → Shared → Prop} {s : Shared}
abbrev TxK (P : Program) (w : World) : HeapKind P w (List Str) := tupleKind (strKind P w)
theorem items_txt {k : List Str} {vs : List Value} (h : ItemsAre (strKind P w) k vs) : ∀ v ∈ vs, ∃ x t, v = Value.str x t := by
  induction h with
  | nil => exact fun v hv => nomatch hv
  | @cons k0 u ks us h1 _ ih =>
    intro v hv
    rcases List.mem_cons.mp hv with rfl | hv
    · obtain ⟨t, e⟩ := Value.isStrOf_shape h1
      exact ⟨k0, t, e⟩
    · exact ih v hv
/-- a walk over a tuple's items that finds nothing -/
theorem walkNone {β : Type} {items : Array Value} {f : Value → Option β × Unit → Sem (ForInStep (Option β × Unit))} {Q : Option β × Unit → Shared → Prop} (hi : ∀ v ∈ items.toList, ∃ x t, v = Value.str x t)
    (hf : ∀ x t r, f (.str x t) r = pure (.yield (none, ()))) (h : Q (none, ()) s) : wpAny (model P w) A (forIn items (none, ()) f) Q E s := by
  rw [← Array.forIn_toList]
  refine wpAny_forIn_list _ (fun todo r z => r = (none, ()) ∧ z = s ∧ ∀ v ∈ todo, ∃ x t, v = Value.str x t) _ ?_ ?_ _ _ ⟨rfl, rfl, hi⟩
  · rintro v todo r z ⟨rfl, rfl, al⟩
    obtain ⟨x, t, rfl⟩ := al v List.mem_cons_self
    rw [hf]
    exact wpAny_pure ⟨rfl, rfl, fun u hu => al u (List.mem_cons_of_mem _ hu)⟩
  · rintro r z ⟨rfl, rfl, _⟩
    exact h
theorem txNoCl {k : List Str} {b : Addr} {Q : Bool → Shared → Prop} (hk : (TxK P w).is s.heap k b) (h : Q false s) : wpAny (model P w) A (ofAClassStatement 8 (.ref b)) Q E s := by
  have hT := IsTupleKey.typeIs hk
  obtain ⟨o, items, n, ho, _, hd, hi⟩ := hk
  unfold ofAClassStatement
  refine wpAny_bind (wpAny_typeOf hT ?_)
  dsimp only
  have e : (("tuple" : String) == "tuple") = true := by decide
  simp only [e, if_true, Bool.not_true, Bool.false_eq_true, if_false]
  try refine wpAny_bind (wpAny_pure ?_)
  try simp only [Bool.not_true, Bool.false_eq_true, if_false]
  show wpAny _ _ (seqItems? (.ref b) >>= _) _ _ s
  refine wpAny_bind (wpAny_seqItems ho hd ?_)
  dsimp only
  refine wpAny_bind ?_
  show wpAny _ _ (forIn items _ _) _ _ s
  refine walkNone (items_txt hi) (fun x t r => ?_) (wpAny_pure h)
  rfl
theorem txByVa {k : List Str} {b : Addr} {Q : Bool → Shared → Prop} (hk : (TxK P w).is s.heap k b) (h : ∀ b, Q b s) : wpAny (model P w) A (hashByValue 8 (.ref b)) Q E s := by
  have hT := IsTupleKey.typeIs hk
  obtain ⟨o, items, n, ho, _, hd, hi⟩ := hk
  unfold hashByValue
  refine wpAny_bind (wpAny_specialOf hT F.slot_tuple_hash.lookup ?_)
  show wpAny _ _ (seqItems? (.ref b) >>= _) _ _ s
  refine wpAny_bind (wpAny_seqItems ho hd (wpAny_bind ?_))
  show wpAny _ _ (forIn items _ _) _ _ s
  rw [← Array.forIn_toList]
  have al := items_txt hi
  generalize items.toList = its at al
  cases its with
  | nil => exact wpAny_pure (wpAny_pure (h true))
  | cons v vs =>
    obtain ⟨x, t, rfl⟩ := al v List.mem_cons_self
    exact wpAny_pure (wpAny_pure (h false))
theorem txSet : SetKey (TxK P w) where
  same := fun hk ⟨o, items, n, ho, hc, hd, hi⟩ => ⟨o, items, n, hk _ _ _ _ ho hd, hc, hd, hi⟩
  noCl := txNoCl
  byVa := txByVa
end
/-! ### sorted of data -/
section
variable {P : Program} {w : World} {A : Around} {E : Value → Shared → Prop} {s : Shared}
abbrev srtD (ps : List (V × PyData)) : List (V × PyData) := ps.mergeSort (PySem.W.dataLe false fun p => p.2)
theorem vals_each {ps : List (V × PyData)} {us : List Value} (h : PySem.W.EachIs (fun u (p : V × PyData) => RelV p.1 u) us ps) : Vals (ps.map (·.1)) us := by
  induction h with
  | nil => exact .nil
  | cons r _ ih => exact .cons r ih
theorem each_vals : ∀ {ps : List (V × PyData)} {us : List Value}, Vals (ps.map (·.1)) us → PySem.W.EachIs (fun u (p : V × PyData) => RelV p.1 u) us ps
  | [], _, .nil => .nil
  | _ :: _, _, .cons r t => .cons r (each_vals t)
theorem srtD_short {ps : List (V × PyData)} (h : ps.length < 2) : srtD ps = ps := by
  rcases ps with _ | ⟨p, _ | ⟨q, r⟩⟩
  · simp [srtD]
  · simp [srtD]
  · simp at h; omega
theorem short_perm {α : Type} {l m : List α} (p : l.Perm m) (h : m.length < 2) : l = m := by
  rcases m with _ | ⟨x, _ | ⟨y, r⟩⟩
  · exact List.perm_nil.mp p
  · exact List.perm_singleton.mp p
  · simp at h; omega
theorem swoNo : Swo (fun _ _ : Value => false) := ⟨fun _ _ _ => rfl, fun _ _ _ _ _ => rfl⟩
/-- sorted(xs), a list of data -/
theorem sortedD {l : Addr} {ps : List (V × PyData)} {its : List Value} {Q : Value → Shared → Prop} (hl : s.heap.IsList l its.toArray) (rv : Vals (ps.map (·.1)) its) (er : PySem.W.EachIs (fun u (p : V × PyData) => ∃ as, Reads s.heap u p.2 as) its ps)
    (hal : PySem.W.AllAlike (ps.map (·.2))) (hk : ps.length < 2 ∨ PySem.W.Sortable (ps.map (·.2))) (hL : ps.length ≤ sizeLine) (hu : ∀ p ∈ ps, A.units + 2 + p.2.depth < cLine)
    (h : ∀ out : List Value, Vals ((srtD ps).map (·.1)) out → Q (.ref (s.heap.objs.size + 1)) { s with heap := sortedAll s.heap its out.toArray }) :
    wpAny (model P w) A (call (.builtin "sorted") [.ref l]) Q E s := by
  have hlen : its.length = ps.length := by rw [← rv.length, List.length_map]
  rcases hk with hk | hk
  · refine sorted_ord swoNo hl (by rw [hlen]; exact hL) (fun h2 => by omega) fun out _ st => h out ?_
    rw [srtD_short hk, short_perm st.perm (by omega)]
    exact rv
  · exact PySem.W.sorted_data (enc := fun p : V × PyData => p.2) hl (each_vals rv) er hal hk hL hu fun out _ e => h out (vals_each e)
def rSortD (K : PySem.W.Frag) : List V → Hp → VK → Prop := fun vs H Q => ∃ (a : Addr) (ps : List (V × PyData)), vs = [V.ref a] ∧ SqL K H a (ps.map (·.1)) ∧ (∀ p ∈ ps, Dp K H p.1 p.2) ∧ PySem.W.AllAlike (ps.map (·.2)) ∧ (ps.length < 2 ∨ PySem.W.Sortable (ps.map (·.2))) ∧
  (∀ p ∈ ps, p.2.depth ≤ 30) ∧ ∀ q, H q = none → Q (.ref q) (upd H q (.lst ((srtD ps).map (·.1))))
end
section
variable {X : Cx}
theorem each_reads {pins : List (Addr × Obj)} {σ : L2.St} {H : Hp} {s : Shared} (I : L2.Inv X pins σ H s) : ∀ {ps : List (V × PyData)} {us : List Value}, Vals (ps.map (·.1)) us → (∀ p ∈ ps, Dp X.K H p.1 p.2) → PySem.W.EachIs (fun u (p : V × PyData) => ∃ as, Reads s.heap u p.2 as) us ps
  | [], _, .nil, _ => .nil
  | p :: ps, _, .cons r t, h => .cons (Dp.reads I p.2 p.1 _ (h p List.mem_cons_self) r) (each_reads I t fun q hq => h q (List.mem_cons_of_mem _ hq))
theorem cr_sortD (hu : X.A.units + 64 < cLine) : CallR X (.builtin "sorted") (rSortD X.K) := by
  intro pins s σ H vs us Q I r h
  obtain ⟨a, ps, rfl, hs, hd, hal, hk, hdp, q⟩ := h
  obtain ⟨its, rv, hl, hz⟩ := I.list hs
  rw [Vals.ref1 r]
  have hlen : its.length = ps.length := by rw [← rv.length, List.length_map]
  refine sortedD hl.isList rv (each_reads I rv hd) hal hk (by simpa using hz) (fun p hp => by have := hdp p hp; omega) fun out ho => ?_
  obtain ⟨ep, he⟩ := PyProof.Rows.sortedAll_at s.heap its out.toArray
  have hz2 : ((srtD ps).map (·.1)).length ≤ sizeLine := by rw [List.length_map, List.length_mergeSort]; simpa using hz
  exact ⟨.ref _, upd H (s.heap.objs.size + 1) (.lst ((srtD ps).map (·.1))), I.laid (t' := s.toks) (fun _ _ => PyProof.Rows.sortedAll_old) (Nat.le_succ _) ⟨hz2, out, ep, ho, he⟩, rfl, q _ (I.hok.fresh (Nat.le_succ _))⟩
end
/-! ### sets of tuples of texts, and these sorted -/
/-- the set at a, its members' own tuples aside -/
def Members0 {P : Program} {w : World} (h : Heap) (a : Addr) (L : List (Addr × List Str)) : Prop :=
  ∃ (es : Array (Int × Value)) (ep : Nat) (t : SetTable), (∃ o, h.get? a = some o ∧ o.ExactSet ∧ o.data = .set es ep t) ∧ es.toList = L.map (mem1 (TxK P w)) ∧ TabOk t (mhs (TxK P w) L) ∧ (L.map (·.2)).Nodup ∧
    (w.params.followText "set-order" = true ∨ t.led = true) ∧ L.length * 5 < t.mask * 3 ∧ L.length < 64
def SetTxO (P : Program) (w : World) (a : Addr) (L : List (Addr × List Str)) : HO := .ext fun h => Members0 (P := P) (w := w) h a L
theorem Members.zero {P : Program} {w : World} {h : Heap} {a : Addr} {L : List (Addr × List Str)} {es : Array (Int × Value)} {ep : Nat} {t : SetTable} (R : Members (TxK P w) h a L es ep t) : Members0 (P := P) (w := w) h a L :=
  ⟨es, ep, t, R.at_, R.are, R.tab, R.one, R.led, R.low, R.few⟩
theorem Members0.full {P : Program} {w : World} {h : Heap} {a : Addr} {L : List (Addr × List Str)} (R : Members0 (P := P) (w := w) h a L) (ht : ∀ p ∈ L, (TxK P w).is h p.2 p.1) : ∃ es ep t, Members (TxK P w) h a L es ep t :=
  let ⟨es, ep, t, h1, h2, h3, h4, h6, h7, h8⟩ := R
  ⟨es, ep, t, h1, h2, h3, h4, ht, h6, h7, h8⟩
theorem setTxO_ok {P : Program} {w : World} {H : Hp} {h : Heap} {a : Addr} {L : List (Addr × List Str)} (R : Members0 (P := P) (w := w) h a L) : ObjOk P w H h a (SetTxO P w a L) := by
  have ⟨es, ep, t, ⟨o, ho, r⟩, q⟩ := R
  refine ⟨R, ⟨o, ho⟩, fun h1 h2 p k => ?_⟩
  have ⟨es', ep', t', ⟨o', ho', r'⟩, q'⟩ : Members0 (P := P) (w := w) h1 a L := p
  exact ⟨es', ep', t', ⟨o', k o' ho', r'⟩, q'⟩
theorem txItems {P : Program} {w : World} : ∀ {k : List Str} {us : List Value}, Vals (k.map V.str) us → ItemsAre (strKind P w) k us
  | [], _, .nil => .nil
  | n :: k, _, .cons r t => by
    obtain ⟨tk, rfl⟩ := r
    exact .cons (by simp [PySem.strKind, Value.isStrOf]) (txItems t)
theorem refs_eq {α : Type} : ∀ {ks : List (Addr × α)} {us : List Value}, Vals (ks.map fun p => V.ref p.1) us → us = ks.map fun p => Value.ref p.1
  | [], _, .nil => rfl
  | p :: ks, _, .cons r t => by
    cases r
    rw [refs_eq t]; rfl
theorem eq_refs {α : Type} : ∀ (ks : List (Addr × α)), Vals (ks.map fun p => V.ref p.1) (ks.map fun p => Value.ref p.1)
  | [] => .nil
  | p :: ks => .cons rfl (eq_refs ks)
/-- the tuple's texts as data -/
abbrev txD (k : List Str) : PyData := .tuple (k.map .str)
theorem alike_strs : ∀ x y : List Str, PySem.W.alikeAll (x.map .str) (y.map .str) = true
  | [], _ => by simp [PySem.W.alikeAll]
  | _ :: _, [] => by simp [PySem.W.alikeAll]
  | a :: x, b :: y => by simp [PySem.W.alikeAll, PySem.W.alike, alike_strs x y]
theorem depth_strs : ∀ x : List Str, PyData.depthAll (x.map .str) = 0
  | [] => by simp [PyData.depthAll]
  | a :: x => by simp [PyData.depthAll, PyData.depth, depth_strs x]
section
variable {X : Cx}
theorem txIs {pins : List (Addr × Obj)} {σ : L2.St} {H : Hp} {s : Shared} {b : Addr} {k : List Str} (I : L2.Inv X pins σ H s) (h : SqT X.K H b (k.map V.str)) : (TxK X.prog X.w).is s.heap k b := by
  obtain ⟨its, r, ⟨o, ho, hc, n, hd⟩, _⟩ := I.tuple h
  exact ⟨o, its.toArray, n, ho, hc, hd, by simpa using txItems r⟩
/-- set(xs), xs a list of tuples of texts -/
def rSetTx (K : PySem.W.Frag) (P : Program) (w : World) : List V → Hp → VK → Prop := fun xs H Q => ∃ (l : Addr) (ks : List (Addr × List Str)), xs = [V.ref l] ∧ SqL K H l (ks.map fun p => V.ref p.1) ∧ (∀ p ∈ ks, SqT K H p.1 (p.2.map V.str)) ∧ ks.length < 64 ∧
  ∀ a L, H a = none → (∀ p ∈ L, p ∈ ks) → (∀ p ∈ ks, p.2 ∈ L.map (·.2)) → (L.map (·.2)).Nodup → Q (.ref a) (upd H a (SetTxO P w a L))
theorem cr_setTx (hc : X.calm = true) (hu : X.A.units + 64 < cLine) : CallR X (.type "set") (rSetTx X.K X.prog X.w) := by
  intro pins s σ H xs us Q I r h
  obtain ⟨l, ks, rfl, hl, hk, hf, q⟩ := h
  rw [Vals.ref1 r]
  obtain ⟨its, rv, pl, hz⟩ := I.list hl
  refine call_set txSet (P := X.prog) (w := X.w) ks (I.ok.hd hc) pl.isList (by simpa using refs_eq rv) (fun p hp => txIs I (hk p hp)) hf (show X.A.in1.in1.in1.units < cLine by simp only [Around.in1]; omega) fun h' tk L es ep t R g k => ?_
  refine ⟨.ref s.heap.objs.size, upd H s.heap.objs.size (SetTxO X.prog X.w s.heap.objs.size L), I.laid (t' := tk) k (Nat.le_refl _) (setTxO_ok R.zero), rfl, q _ L (I.hok.fresh (Nat.le_refl _)) (fun p hp => List.mem_of_mem_take (g.from_ p hp)) (fun p hp => ?_) R.one⟩
  exact g.all_ p (by rw [List.take_length]; exact hp)
theorem perm_unmap {α β : Type} {f : α → β} {vs ws : List β} (h : vs.Perm ws) : ∀ L : List α, ws = L.map f → ∃ M : List α, vs = M.map f ∧ M.Perm L := by
  induction h with
  | nil =>
    intro L e
    rcases L with _ | ⟨y, L⟩
    · exact ⟨[], rfl, .refl _⟩
    · cases e
  | cons x _ ih =>
    intro L e
    rcases L with _ | ⟨y, L⟩
    · cases e
    · injection e with e1 e2
      obtain ⟨M, m1, m2⟩ := ih L e2
      exact ⟨y :: M, by rw [m1, e1]; rfl, m2.cons y⟩
  | swap x y l =>
    intro L e
    rcases L with _ | ⟨u, _ | ⟨v, L⟩⟩
    · cases e
    · cases e
    · injection e with e1 e2
      injection e2 with e2 e3
      exact ⟨v :: u :: L, by rw [e1, e2, e3]; rfl, .swap u v L⟩
  | trans _ _ ih1 ih2 =>
    intro L e
    obtain ⟨M, m1, m2⟩ := ih2 L e
    obtain ⟨M', m3, m4⟩ := ih1 M m1
    exact ⟨M', m3, m4.trans m2⟩
abbrev srtT (L : List (Addr × List Str)) : List (Addr × List Str) := L.mergeSort (PySem.W.dataLe false fun p => txD p.2)
theorem reads_strs {P : Program} {w : World} (h : Heap) {k : List Str} {us : List Value} (r : ItemsAre (PySem.strKind P w) k us) : ReadsAll h us (k.map .str) [] := by
  induction r with
  | nil => exact ReadsAll.nil
  | cons h1 _ ih =>
    obtain ⟨t, rfl⟩ := Value.isStrOf_shape h1
    exact ReadsAll.cons (as := []) (Reads.str _ t) ih
theorem reads_tx {P : Program} {w : World} {h : Heap} {k : List Str} {b : Addr} (x : (TxK P w).is h k b) : Reads h (.ref b) (txD k) [] := by
  obtain ⟨o, items, n, ho, hc, hd, hi⟩ := x
  exact Reads.tuple ho hc hd (reads_strs h hi)
theorem each_refs : ∀ {L : List (Addr × List Str)} {us : List Value}, PySem.W.EachIs (fun u (p : Addr × List Str) => u = Value.ref p.1) us L → us = L.map fun p => Value.ref p.1
  | [], _, .nil => rfl
  | _ :: _, _, .cons r t => by rw [each_refs t, r]; rfl
theorem refs_each {R : Value → Addr × List Str → Prop} : ∀ (L : List (Addr × List Str)), (∀ p ∈ L, R (.ref p.1) p) → PySem.W.EachIs R (L.map fun p => Value.ref p.1) L
  | [], _ => .nil
  | p :: L, h => .cons (h p List.mem_cons_self) (refs_each L fun q hq => h q (List.mem_cons_of_mem _ hq))
section
variable {P : Program} {w : World} {A : Around} {E : Value → Shared → Prop} {s : Shared}
end
end
end Rp

/-! Data with lists for tuples: lots, fruits with lots, orchards. -/
namespace Rp
open PySem PySem.Spec PyProof.Rows L2
mutual
/-- tuples in the place of lists -/
def flat : PyData → PyData
  | .list ds => .tuple (flats ds)
  | .tuple ds => .tuple (flats ds)
  | d => d
def flats : List PyData → List PyData
  | [] => []
  | d :: ds => flat d :: flats ds
end
mutual
/-- lists in the place of tuples -/
def listy : PyData → PyData
  | .list ds => .list (listys ds)
  | .tuple ds => .list (listys ds)
  | d => d
def listys : List PyData → List PyData
  | [] => []
  | d :: ds => listy d :: listys ds
end
theorem flats_eq : ∀ ds, flats ds = ds.map flat
  | [] => by simp [flats]
  | d :: ds => by simp [flats, flats_eq ds]
theorem listys_eq : ∀ ds, listys ds = ds.map listy
  | [] => by simp [listys]
  | d :: ds => by simp [listys, listys_eq ds]
mutual
theorem flat_listy : ∀ d, flat (listy d) = flat d
  | .list ds => by simp [flat, listy, flats_listys ds]
  | .tuple ds => by simp [flat, listy, flats_listys ds]
  | .none => by simp [flat, listy]
  | .bool _ => by simp [flat, listy]
  | .int _ => by simp [flat, listy]
  | .str _ => by simp [flat, listy]
  | .dict _ => by simp [flat, listy]
theorem flats_listys : ∀ ds, flats (listys ds) = flats ds
  | [] => by simp [flats, listys]
  | d :: ds => by simp [flats, listys, flat_listy d, flats_listys ds]
end
/-- lots, and an orchard, as data -/
abbrev lotsD (ls : List (List Str)) : PyData := .tuple (ls.map txD)
abbrev fruitD (p : Str × List (List Str)) : PyData := .tuple [.str p.1, lotsD p.2]
abbrev grD (G : List (Str × List (List Str))) : PyData := .tuple (G.map fruitD)
theorem flat_tx (z : List Str) : flat (txD z) = txD z := by
  simp only [flat, flats_eq, List.map_map]; congr 1
theorem flat_lots (ls : List (List Str)) : flat (lotsD ls) = lotsD ls := by
  simp only [flat, flats_eq, List.map_map]; congr 1
  exact List.map_congr_left fun z _ => flat_tx z
theorem flat_fruit (p : Str × List (List Str)) : flat (fruitD p) = fruitD p := by
  have h := flat_lots p.2
  simp only [flat, flats] at h ⊢
  rw [h]
theorem flat_gr (G : List (Str × List (List Str))) : flat (grD G) = grD G := by
  simp only [flat, flats_eq, List.map_map]; congr 1
  exact List.map_congr_left fun p _ => flat_fruit p
section
variable {K : PySem.W.Frag} {H : Hp}
theorem take_at {α : Type} {l : List α} {i : Nat} {x : α} (h : l[i]? = some x) : l.take (i + 1) = l.take i ++ [x] := by rw [List.take_succ, h]; rfl
/-- all of the one in the other -/
def inAll (z o : List Str) : Bool := z.all fun x => decide (x ∈ o)
def inOne (ls : List (List Str)) (o : List Str) : Bool := ls.any fun z => inAll z o
def ripeG (G : List (Str × List (List Str))) (o : List Str) : List Str := (G.filter fun p => !decide (p.1 ∈ o) && inOne p.2 o).map (·.1)
theorem DpAll.snoc : ∀ {xs : List V} {ds : List PyData} {v : V} {d : PyData}, DpAll K H xs ds → Dp K H v d → DpAll K H (xs ++ [v]) (ds ++ [d])
  | _, _, _, _, .nil, h => .cons h .nil
  | _, _, _, _, .cons a t, h => .cons a (DpAll.snoc t h)
theorem mask_upd {D : Addr} {H : Hp} {o : HO} : mask D (upd H D o) = mask D H := by
  funext b
  unfold mask
  split
  · rfl
  · rename_i h; rw [upd_ne h]
theorem mask_into {D : Addr} {H H' : Hp} (nD : H D = none) (s : Same H H') : Same H (mask D H') := fun b o e => by
  rw [mask_ne (ne_of_none e nD)]; exact s b o e
theorem mask_on {D : Addr} {H H' : Hp} (s : Same H H') : Same (mask D H) (mask D H') := fun b u e => by
  by_cases h : b = D
  · rw [h] at e; simp [mask] at e
  · rw [mask_ne h] at e ⊢
    exact s b u e
theorem mask_to {D : Addr} {H H' : Hp} (s : Same H (mask D H')) : Same H H' := s.trans (mask_same D H')
theorem inAll_take {z o : List Str} : (z.map fun x => decide (x ∈ o)).all id = inAll z o := by simp [inAll, List.all_map, Function.comp_def]
theorem inOne_map {ls : List (List Str)} {o : List Str} : (ls.map fun z => inAll z o).any id = inOne ls o := by simp [inOne, List.any_map, Function.comp_def]
end
end Rp

/-! Names share their stem: not both of two far ones are there. -/
namespace Rp
open PySem PySem.Spec PyProof.Rows L2
def z8 : Str := Str.ofString "zzzzzzzz"
def y8 : Str := Str.ofString "yyyyyyyy"
end Rp

/-! The least of some lots. -/
namespace Rp
open PySem PySem.Spec PyProof.Rows L2
def okT (z : List Str) : Prop := ∀ x ∈ z, PyData.strOk x = true
theorem lay_tx : ∀ {z : List Str}, okT z → PyData.canLayAll0 (z.map .str) = true
  | [], _ => by simp [PyData.canLayAll0]
  | x :: z, h => by
    have h1 := h x List.mem_cons_self
    have h2 := lay_tx (z := z) fun y hy => h y (List.mem_cons_of_mem _ hy)
    simp [PyData.canLayAll0, PyData.canLay0, h1, h2]
theorem shaped_tx {z : List Str} (h : okT z) : SeqAt.shaped (txD z) = true := by
  simp [SeqAt.shaped, PyData.canLay0, lay_tx h, PyData.depth, depth_strs]
theorem eqv_all_tx : ∀ y z : List Str, PyData.eqvAll (y.map .str) (z.map .str) = decide (y = z)
  | [], [] => by simp [PyData.eqvAll]
  | [], _ :: _ => by simp [PyData.eqvAll]
  | _ :: _, [] => by simp [PyData.eqvAll]
  | a :: y, b :: z => by
    have ih := eqv_all_tx y z
    simp [PyData.eqvAll, PyData.eqv, ih]
    rfl
theorem eqv_tx (y z : List Str) : PyData.eqv (txD y) (txD z) = decide (y = z) := by
  simp only [PyData.eqv]; exact eqv_all_tx y z
/-- something else of S lies within z -/
def hasIn (S : List (List Str)) (z : List Str) : Bool := S.any fun y => !decide (y = z) && inAll y z
/-- what is new behind H -/
def news (H H' : Hp) : Hp := fun b => if (H b).isSome then none else H' b
theorem news_at {H H' : Hp} {b : Addr} (h : H b = none) : news H H' b = H' b := by simp [news, h]
theorem news_some {H H' : Hp} {b : Addr} {o : HO} (h : news H H' b = some o) : H b = none ∧ H' b = some o := by
  unfold news at h
  cases e : H b with
  | none => rw [e] at h; exact ⟨rfl, by simpa using h⟩
  | some u => rw [e] at h; simp at h
theorem news_on {H H1 H' : Hp} (s : Same H H1) : Same (news H1 H') (news H H') := fun b o h => by
  obtain ⟨h1, h2⟩ := news_some h
  have h0 : H b = none := by
    cases e : H b with
    | none => rfl
    | some u => rw [s b u e] at h1; cases h1
  rw [news_at h0]; exact h2
/-- the heap without some places -/
def hid (l : List Addr) (H : Hp) : Hp := fun b => if b ∈ l then none else H b
theorem hid_at {l : List Addr} {H : Hp} {b : Addr} (h : b ∉ l) : hid l H b = H b := if_neg h
theorem TapeAt.ext {H H' : Hp} {t : Addr} {n : Nat} (h : TapeAt H t n) (e : H' t = H t) : TapeAt H' t n := by
  obtain ⟨a, b, c, h, r⟩ := h
  exact ⟨a, b, c, by rw [e]; exact h, r⟩
/-- fruits with lots as lists, in pairs -/
abbrev liD (z : List Str) : PyData := .list (z.map .str)
theorem alike_lots : ∀ x y : List (List Str), PySem.W.alikeAll (x.map txD) (y.map txD) = true
  | [], _ => by simp [PySem.W.alikeAll]
  | _ :: _, [] => by simp [PySem.W.alikeAll]
  | a :: x, b :: y => by simp [PySem.W.alikeAll, PySem.W.alike, alike_strs a b, alike_lots x y]
theorem depth_lots : ∀ x : List (List Str), PyData.depthAll (x.map txD) ≤ 1
  | [] => by simp [PyData.depthAll]
  | a :: x => by
    have := depth_lots x
    simp only [List.map_cons, PyData.depthAll, PyData.depth, depth_strs]
    omega
theorem alike_fruits (G : List (Str × List (List Str))) : PySem.W.AllAlike (G.map fruitD) := .of fun p q => by simp [PySem.W.alike, PySem.W.alikeAll, alike_lots]
theorem depth_fruit (p : Str × List (List Str)) : (fruitD p).depth ≤ 30 := by
  have := depth_lots p.2
  simp only [PyData.depth, PyData.depthAll]
  omega
theorem name_ok {z : Str} (h : IsName z) : PyData.strOk z = true := by
  unfold PyData.strOk
  rw [← Array.all_toList, List.all_eq_true]
  intro c hc
  have := (h.2.2 c hc).2
  simp; omega
theorem Dp.apart {K : PySem.W.Frag} {H H' : Hp} {t : Addr} {v : V} {d : PyData} (ht : (H t).isSome = true) (h : Dp K (news H H') v d) : Dp K (hid [t] H') v d :=
  Dp.same (fun b o e => by
    obtain ⟨e1, e2⟩ := news_some e
    rw [hid_at (by
      intro z
      rw [List.mem_singleton.mp z] at e1
      rw [e1] at ht; cases ht)]
    exact e2) h
theorem tape_some {H : Hp} {t : Addr} {n : Nat} (h : TapeAt H t n) : (H t).isSome = true := by
  obtain ⟨_, _, _, h, _⟩ := h
  rw [h]; rfl
/-- an orchard as the law makes it -/
structure Grown (zs : List Str) (G : List (Str × List (List Str))) : Prop where
  nd : (G.map (·.1)).Nodup
  nm : ∀ p ∈ G, IsName p.1
  lots : ∀ p ∈ G, p.2.length < 64 ∧ ∀ z ∈ p.2, z.length ≤ 26 ∧ ∀ x ∈ z, IsName x
  len : G.length = zs.length
  apart : ¬ (z8 ∈ G.map (·.1) ∧ y8 ∈ G.map (·.1))
theorem deep_tx (n : Nat) {z : List Str} (h : z.length ≤ 1000) : Deep (n + 1) (txD z) := ⟨by simpa using h, deep_strs n z⟩
theorem deep_lots (n : Nat) {ls : List (List Str)} (h : ls.length ≤ 1000) (hz : ∀ z ∈ ls, z.length ≤ 1000) : Deep (n + 2) (lotsD ls) := ⟨by simpa using h, fun d hd => by
  obtain ⟨z, hz', rfl⟩ := List.mem_map.mp hd
  exact deep_tx n (hz z hz')⟩
theorem deep_fruit (n : Nat) {p : Str × List (List Str)} (h : p.2.length ≤ 1000) (hz : ∀ z ∈ p.2, z.length ≤ 1000) : Deep (n + 3) (fruitD p) := ⟨by simp, fun d hd => by
  rcases List.mem_cons.mp hd with rfl | hd
  · simp [Deep]
  · rw [List.mem_singleton.mp hd]; exact deep_lots n h hz⟩
theorem deep_gr (n : Nat) {G : List (Str × List (List Str))} (h : G.length ≤ 1000) (hz : ∀ p ∈ G, p.2.length ≤ 1000 ∧ ∀ z ∈ p.2, z.length ≤ 1000) : Deep (n + 4) (grD G) := ⟨by simpa using h, fun d hd => by
  obtain ⟨p, hp, rfl⟩ := List.mem_map.mp hd
  exact deep_fruit n (hz p hp).1 (hz p hp).2⟩
end Rp

/-! An orchard's repr: it can be shown, and is no longer than a text may be. -/
namespace Rp
open PySem PySem.Spec PyProof.Rows L2
section
variable {α : Type} {f : α → PyData}
theorem w_all {B : Nat} : ∀ l : List α, (∀ x ∈ l, (f x).weight ≤ B) → PyData.weightAll (l.map f) ≤ l.length * (B + 1)
  | [], _ => by simp [PyData.weightAll]
  | x :: l, h => by
    have h1 := h x List.mem_cons_self
    have h2 := w_all l fun y hy => h y (List.mem_cons_of_mem _ hy)
    simp only [List.map_cons, PyData.weightAll, List.length_cons, Nat.add_mul]
    omega
theorem sh_all : ∀ l : List α, (∀ x ∈ l, (f x).showable = true) → PyData.showableAll (l.map f) = true
  | [], _ => by simp [PyData.showableAll]
  | x :: l, h => by simp only [List.map_cons, PyData.showableAll, h x List.mem_cons_self, sh_all l fun y hy => h y (List.mem_cons_of_mem _ hy), Bool.and_self]
theorem hd_all : ∀ l : List α, (∀ x ∈ l, (f x).hasDict = false) → PyData.hasDictAll (l.map f) = false
  | [], _ => by simp [PyData.hasDictAll]
  | x :: l, h => by simp only [List.map_cons, PyData.hasDictAll, h x List.mem_cons_self, hd_all l fun y hy => h y (List.mem_cons_of_mem _ hy), Bool.or_self]
theorem is_all : ∀ l : List α, (∀ x ∈ l, (f x).intsShort 13 = true) → PyData.intsShortAll 13 (l.map f) = true
  | [], _ => by simp [PyData.intsShortAll]
  | x :: l, h => by simp only [List.map_cons, PyData.intsShortAll, h x List.mem_cons_self, is_all l fun y hy => h y (List.mem_cons_of_mem _ hy), Bool.and_self]
theorem cl_all : ∀ l : List α, (∀ x ∈ l, (f x).canLay0 = true) → PyData.canLayAll0 (l.map f) = true
  | [], _ => by simp [PyData.canLayAll0]
  | x :: l, h => by simp only [List.map_cons, PyData.canLayAll0, h x List.mem_cons_self, cl_all l fun y hy => h y (List.mem_cons_of_mem _ hy), Bool.and_self]
end
theorem sh_tx (z : List Str) : (txD z).showable = true := by
  simp only [PyData.showable]; exact sh_all z fun _ _ => by simp [PyData.showable]
theorem hd_tx (z : List Str) : (txD z).hasDict = false := by
  simp only [PyData.hasDict]; exact hd_all z fun _ _ => by simp [PyData.hasDict]
theorem is_tx (z : List Str) : (txD z).intsShort 13 = true := by
  simp only [PyData.intsShort]; exact is_all z fun _ _ => by simp [PyData.intsShort]
theorem show_gr (G : List (Str × List (List Str))) : (grD G).showable = true ∧ (grD G).hasDict = false ∧ (grD G).intsShort 13 = true := by
  refine ⟨?_, ?_, ?_⟩
  · simp only [PyData.showable]
    refine sh_all G fun p _ => ?_
    have := sh_all p.2 fun z _ => sh_tx z
    simp only [PyData.showable, PyData.showableAll] at this ⊢
    simp [this]
  · simp only [PyData.hasDict]
    refine hd_all G fun p _ => ?_
    have := hd_all p.2 fun z _ => hd_tx z
    simp only [PyData.hasDict, PyData.hasDictAll] at this ⊢
    simp [this]
  · simp only [PyData.intsShort]
    refine is_all G fun p _ => ?_
    have := is_all p.2 fun z _ => is_tx z
    simp only [PyData.intsShort, PyData.intsShortAll] at this ⊢
    simp [this]
theorem depth_gr : ∀ G : List (Str × List (List Str)), PyData.depthAll (G.map fruitD) ≤ 30
  | [] => by simp [PyData.depthAll]
  | p :: G => by
    have h1 := depth_gr G
    have h2 := depth_fruit p
    simp only [List.map_cons, PyData.depthAll]
    omega
end Rp

/-! Tuples sorted, bare ones among them. -/
namespace Rp
open PySem PySem.W PySem.SeqAt PySem.Calls PyProof.Rows
section
variable {prog : Program} {w : World} {A : Around} {E : Value → Shared → Prop} {s : Shared}
/-- one tuple asked whether it is less, by its own slot -/
theorem tupleLess {Q : Value → Shared → Prop} {p q : Addr} {its jts : Array Value} {same less : Nat → Bool} (tp : s.heap.IsTuple p its) (tq : s.heap.IsTuple q jts)
    (hs : ∀ i (i1 : i < its.size) (i2 : i < jts.size), EqAt A.in1 s its[i] jts[i] (same i)) (hl : ∀ i (i1 : i < its.size) (i2 : i < jts.size), same i = false → RcLt A.in1 s its[i] jts[i] (less i))
    (fin : Q (.bool (firstLt same less (decide (its.size < jts.size)) (List.range (min its.size jts.size)))) s) : wpAny (model prog w) A (call (.builtin "tuple.__lt__") [.ref p, .ref q]) Q E s := by
  obtain ⟨⟨_, dp, _, fp⟩, gp, cp, np, ep⟩ := id tp
  obtain ⟨⟨_, dq, _, fq⟩, gq, cq, nq, eq⟩ := id tq
  simp only at cp ep cq eq
  subst cp ep cq eq
  exact call_meets F.slot_tuple_lt ⟨_, gp, rfl⟩ F.entry_tuple_lt (F.args_tuple_lt_2 _ _) (tuple_ltAt p q its jts np nq dp dq fp fq same less) ⟨gp, gq, hs, hl, fin⟩
theorem oneLt_tuple {xs ys : List PyData} {a b : Value} {as bs : List Addr} {Q : Bool → Shared → Prop} (ra : Reads s.heap a (.tuple xs) as) (rb : Reads s.heap b (.tuple ys) bs) (hal : alikeAll xs ys = true)
    (hu : A.units + min (PyData.tuple xs).depth (PyData.tuple ys).depth < cLine) (hq : Q (dataLt (.tuple xs) (.tuple ys)) s) : wpAny (model prog w) A (oneLt' true a b) Q E s := by
  cases ra with
  | @tuple p o its n _ _ g1 g2 g3 rxs =>
    cases rb with
    | @tuple p' o' jts n' _ _ f1 f2 f3 rys =>
      have e1 : its.size = xs.length := by have z := ReadsAll.length _ _ _ rxs; simpa using z
      have e2 : jts.size = ys.length := by have z := ReadsAll.length _ _ _ rys; simpa using z
      rw [dataLt_tuple, ← firstLt_toks xs ys hal, ← e1, ← e2] at hq
      rw [oneLt'_eq, if_pos rfl]
      refine wpAny_bind (wpAny_cRoomFor (room_here hu) (wpAny_bind (wpAny_callSpecialIfBound?_slot (T := "tuple") ⟨_, g1, g2⟩ F.slot_tuple_lt ?_)))
      refine tupleLess (same := pairEq xs ys) (less := fun i => dataLt (xs.getD i .none) (ys.getD i .none)) ⟨_, g1, g2, _, g3⟩ ⟨_, f1, f2, _, f3⟩ (fun i i1 i2 => ?_) (fun i i1 i2 hi => ?_) (wpAny_truthy_bool hq)
      · have z := eqAt_alikeAll xs ys A.in1 s its.toList jts.toList _ _ rxs rys hal (room_in hu) i (by simpa using i1) (by simpa using i2)
        simpa using z
      · have z := rcLt_alikeAll xs ys A.in1 s its.toList jts.toList _ _ rxs rys hal (room_in hu) i (by simpa using i1) (by simpa using i2) hi
        simpa using z
def Firsts (h : Heap) : List Value → List (Option Value) → Prop
  | [], [] => True
  | v :: vs, f :: fs => (∃ a o xs n, v = .ref a ∧ h.get? a = some o ∧ o.cls = .type "tuple" ∧ o.data = .seq xs n ∧ xs[0]? = f) ∧ Firsts h vs fs
  | _, _ => False
theorem firsts_run : ∀ (vs : List Value) (fs : List (Option Value)) {Q : List (Option Value) → Shared → Prop}, Firsts s.heap vs fs → Q fs s → wpAny (model prog w) A (vs.mapM firstOfTuple') Q E s
  | [], [], _, _, h => by rw [List.mapM_nil]; exact wpAny_pure h
  | [], _ :: _, _, t, _ => t.elim
  | _ :: _, [], _, t, _ => t.elim
  | v :: vs, f :: fs, Q, t, h => by
    obtain ⟨⟨a, o, xs, n, rfl, ho, hc, hd, hf⟩, t⟩ := t
    rw [List.mapM_cons]
    refine wpAny_bind ?_
    rw [kas_first_eq]
    refine wpAny_bind (Looks.here (show Looks (model prog w) s.heap (typeOf (.ref a)) o.cls from (Looks.ld ho).andThen .now) ?_)
    rw [hc, if_neg (by first | decide | simp)]
    refine wpAny_bind (listItems_at ho hd (wpAny_pure ?_))
    rw [hf]
    exact wpAny_bind (firsts_run vs fs (Q := fun bs s' => wpAny (model prog w) A (pure (f :: bs)) Q E s') t (wpAny_pure h))
theorem firsts_type {h : Heap} : ∀ {vs : List Value} {fs : List (Option Value)}, Firsts h vs fs → ∀ v ∈ vs, Looks (model prog w) h (typeOf v) (.type "tuple")
  | [], [], _, v, hv => absurd hv (by simp)
  | [], _ :: _, t, _, _ => t.elim
  | _ :: _, [], t, _, _ => t.elim
  | u :: vs, f :: fs, t, v, hv => by
    obtain ⟨⟨a, o, xs, n, rfl, ho, hc, hd, hf⟩, t⟩ := t
    rcases List.mem_cons.mp hv with rfl | hv
    · exact hc ▸ (Looks.ld ho).andThen .now
    · exact firsts_type t v hv
theorem kind_mixed {v₁ : Value} {vs : List Value} {f₁ : Option Value} {fs : List (Option Value)} {Q : SortKind → Shared → Prop} (t : Firsts s.heap (v₁ :: vs) (f₁ :: fs)) (hm : none ∈ f₁ :: fs) (h : Q (if f₁.isSome then general' else oneType') s) : wpAny (model prog w) A (keyKind' (v₁ :: vs).toArray) Q E s := by
  rw [keyKind'_eq, List.mapM_toArray, map_eq_pure_bind]
  refine wpAny_bind (wpAny_bind (firsts_run _ _ t (wpAny_pure ?_)))
  have hall : ¬ ((f₁ :: fs).toArray.all fun x => x.isSome) = true := by
    simp only [List.all_toArray, List.all_eq_true]
    intro z
    have := z none hm
    simp at this
  rw [if_neg hall]
  cases f₁ with
  | some f =>
    rw [if_pos (by simp)]
    exact wpAny_pure h
  | none =>
    rw [if_neg (by simp), oneTypeOnly'_eq, List.mapM_toArray, map_eq_pure_bind]
    refine wpAny_bind (wpAny_bind (wpAny_bind (kas_mapM (r := Value.type "tuple") _ (fun v hv Q' hq => (firsts_type t v hv).here hq) (wpAny_pure ?_))))
    have hall2 : ((List.map (fun _ => Value.type "tuple") (v₁ :: vs)).toArray.all fun x => x == Value.type "tuple") = true := by
      simp only [List.all_toArray, List.all_map, List.all_eq_true]
      intro _ _
      exact beq_self_eq_true _
    have h0 : (List.map (fun _ => Value.type "tuple") (v₁ :: vs)).toArray[0]? = some (Value.type "tuple") := by simp
    rw [h0]
    simp only [hall2, if_true]
    exact wpAny_pure (wpAny_pure h)
theorem firsts_of {h : Heap} : ∀ {vs : List Value} {ds : List PyData}, EachIs (fun v d => ∃ as, Reads h v d as) vs ds → (∀ d ∈ ds, ∃ xs, d = .tuple xs) → ∃ fs, Firsts h vs fs ∧ ((PyData.tuple [] ∈ ds) → none ∈ fs)
  | _, _, .nil, _ => ⟨[], trivial, fun z => absurd z (by simp)⟩
  | _, _, .cons (b := d) ⟨as, r⟩ t, ht => by
    obtain ⟨fs, h1, h2⟩ := firsts_of t fun d hd => ht d (List.mem_cons_of_mem _ hd)
    obtain ⟨xs, rfl⟩ := ht d List.mem_cons_self
    cases r with
    | @tuple a o ws n _ _ ho hc hd hr =>
      refine ⟨ws[0]? :: fs, ⟨⟨a, o, ws, n, rfl, ho, hc, hd, rfl⟩, h1⟩, fun z => ?_⟩
      rcases List.mem_cons.mp z with z | z
      · cases z
        have : ws.toList = [] := by
          generalize ws.toList = l at hr
          cases hr; rfl
        have e : ws[0]? = none := by rw [← Array.getElem?_toList, this]; rfl
        rw [e]; exact List.mem_cons_self
      · exact List.mem_cons_of_mem _ (h2 z)
/-- tuples that are alike can be sorted, bare ones among them -/
theorem sortsTups {vs : List Value} {ds : List PyData} (e : EachIs (fun v d => ∃ as, Reads s.heap v d as) vs ds) (hal : AllAlike ds) (ht : ∀ d ∈ ds, ∃ xs, d = .tuple xs) (hu : ∀ d, d ∈ ds → A.units + d.depth < cLine) : SortsAt prog w A s (dataKind s.heap ds) vs := by
  by_cases hb : PyData.tuple [] ∈ ds
  · have room : ∀ {d d' : PyData}, d ∈ ds → A.units + min d.depth d'.depth < cLine := fun {d d'} hd => Nat.lt_of_le_of_lt (Nat.add_le_add_left (Nat.min_le_left _ _) _) (hu d hd)
    obtain ⟨fs, h1, h2⟩ := firsts_of e ht
    have h3 := h2 hb
    clear h2
    refine ⟨fun v hv => ?_, ?_⟩
    · obtain ⟨d, hd, as, r⟩ := e.left v hv
      exact ⟨_, dataKind_some hal hd r⟩
    · cases e with
      | nil => cases hb
      | @cons v₁ d₁ vs ds e1 e2 =>
        cases fs with
        | nil => cases h3
        | cons f₁ fs =>
          refine ⟨if f₁.isSome then general' else oneType', ?_, fun _ E Q hq => kind_mixed h1 h3 hq⟩
          intro E x y a b Q ha hb hq
          obtain ⟨d, as, hd, ra, rfl⟩ := dataKind_inv ha
          obtain ⟨d', as', hd', rb, rfl⟩ := dataKind_inv hb
          obtain ⟨xs, rfl⟩ := ht d hd
          obtain ⟨ys, rfl⟩ := ht d' hd'
          have al := hal _ hd _ hd'
          cases f₁ with
          | some f =>
            show wpAny (model prog w) A (oneLt' false x y) Q E s
            exact oneLt_alike (fun z => by cases z) ra rb al (fun z => by cases z) (room hd) hq
          | none =>
            show wpAny (model prog w) A (oneLt' true x y) Q E s
            exact oneLt_tuple ra rb (by simpa [alike] using al) (room hd) hq
  · refine SortsAt.data e hal (.inl fun d hd => ?_) hu
    obtain ⟨xs, rfl⟩ := ht d hd
    rcases xs with _ | ⟨x, r⟩
    · exact absurd hd hb
    · exact ⟨x, r, rfl⟩
/-- xs.sort() of tuples -/
theorem sortTupsL {β : Type} {vs : List Value} {bs : List β} {enc : β → PyData} {R : Value → β → Prop} {l : Addr} {n : Nat} {Q : Value → Shared → Prop} (hl : s.heap.get? l = some (seqObj "list" vs.toArray n)) (e : EachIs R vs bs) (er : EachIs (fun v b => ∃ as, Reads s.heap v (enc b) as ∧ l ∉ as) vs bs)
    (hal : AllAlike (bs.map enc)) (ht : ∀ b ∈ bs, ∃ xs, enc b = .tuple xs) (hL : bs.length ≤ sizeLine) (hu : ∀ b ∈ bs, A.units + 1 + (enc b).depth < cLine)
    (fin : ∀ out, out.length = bs.length → EachIs R out (bs.mergeSort (dataLe false enc)) → Q .none { s with heap := sortedHeap s.heap l vs (List.toArray out) }) : wpAny (model prog w) A (call (.builtin "list.sort") [.ref l]) Q E s := by
  have ek := each_keepBut (h' := sortingHeap s.heap l vs) (fun _ _ ne g => sortingHeap_old ne g) (fun o g => by rw [hl] at g; rw [← Option.some.inj g]) hal er
  have tt : ∀ d ∈ bs.map enc, ∃ xs, d = .tuple xs := fun d hd => by
    obtain ⟨b, hb, rfl⟩ := List.mem_map.mp hd
    exact ht b hb
  have so := sortsTups (prog := prog) (w := w) (A := A.in1) (s := { s with heap := sortingHeap s.heap l vs }) (each_map (R := fun v d => ∃ as, Reads (sortingHeap s.heap l vs) v d as) enc ek) hal tt (bound_map hu)
  exact wpAny_call_entry slot_list_sort ⟨_, hl, rfl⟩ entry_list_sort (list_sort_vals (κ := dataKind (sortingHeap s.heap l vs) (bs.map enc)) hl so (by rw [e.length]; exact hL) ⟨.none, rfl, fin _ (by rw [sortVals_length false rfl]; exact e.length) (sortVals_data false e ek hal)⟩) (args_list_sort _)
end
section
variable {P : Program} {w : World} {A : Around} {E : Value → Shared → Prop} {s : Shared}
open L2 SrtO
theorem sortedTxE {a : Addr} {L : List (Addr × List Str)} {es : Array (Int × Value)} {ep : Nat} {t : SetTable} {Q : Value → Shared → Prop} (R : Members (TxK P w) s.heap a L es ep t) (hh : A.handled = none) (hu : A.units + 8 < cLine)
    (hQ : ∀ s' p (out : List Value) (c : Nat) (M : List (Addr × List Str)), (∀ b o, s.heap.get? b = some o → s'.heap.get? b = some o) → s'.gens = s.gens → s'.os = s.os → s.heap.objs.size ≤ p →
      s'.heap.get? p = some (seqObj "list" out.toArray c) → out = (srtT M).map (fun q => Value.ref q.1) → M.Perm L → Q (.ref p) s') :
    wpAny (model P w) A (call (.builtin "sorted") [.ref a]) Q E s := by
  obtain ⟨o, ho, hex, hd⟩ := R.at_
  have hsz := are_size R.are
  have hfew := R.few
  refine Calls.call_function_entry kind_sorted plain_sorted entry_sorted (args_sorted1 _) ?_
  unfold Builtin.«sorted»
  refine wpAny_bind (m := checkCount "sorted" 1 1 _) (wpAny_pure ?_)
  refine wpAny_bind (collect_set (A := A.in1) hh ⟨o, ho, hex.1, hd⟩ R.fit (by unfold scanBound; omega) R.tab.ris R.led fun s1 vs k1 hz g1 o1 pm => ?_)
  obtain ⟨M, rfl, pM⟩ := perm_unmap (f := fun p : Addr × List Str => Value.ref p.1) pm L (by rw [R.are, List.map_map]; rfl)
  have hM : M.length < 64 := by rw [pM.length_eq]; exact hfew
  refine wpAny_bind (wpAny_newList ?_ (by rw [List.length_map, sizeLine_eq]; omega))
  have hoL : (s1.heap.push (seqObj "list" (M.map fun p => Value.ref p.1).toArray 0)).get? s1.heap.objs.size = some (seqObj "list" (M.map fun p => Value.ref p.1).toArray 0) := Heap.get?_push_size _ rfl
  have tk : ∀ p ∈ M, (TxK P w).is (s1.heap.push (seqObj "list" (M.map fun p => Value.ref p.1).toArray 0)) p.2 p.1 := fun p hp => txSet.grown (R.key p (pM.mem_iff.mp hp)) fun b u e => Heap.get?_push_of_some _ (k1 b u e)
  refine wpAny_bind (wpAny_holding (sortTupsL (s := { s1 with heap := s1.heap.push (seqObj "list" (M.map fun p => Value.ref p.1).toArray 0) }) (R := fun u (p : Addr × List Str) => u = Value.ref p.1) (enc := fun p => txD p.2) hoL (refs_each M fun p _ => rfl)
      (refs_each M fun p hp => ⟨[], reads_tx (tk p hp), List.not_mem_nil⟩) (.of fun p q => ?_) (fun p _ => ⟨_, rfl⟩) (by rw [sizeLine_eq]; omega) (fun p _ => ?_) fun out _ e => ?_))
  · show PySem.W.alike (txD p.2) (txD q.2) = true
    simp only [PySem.W.alike]
    exact alike_strs _ _
  · simp only [PyData.depth, depth_strs, Around.in1]; omega
  · refine wpAny_pure ⟨_, rfl, ?_⟩
    obtain ⟨c, hc⟩ := sortedHeap_at (vs := M.map fun p => Value.ref p.1) (out := out.toArray) hoL
    refine hQ _ s1.heap.objs.size out c M (fun b u q => ?_) g1 o1 hz hc (each_refs e) pM
    have q1 := k1 b u q
    have hlt := Heap.lt_size q1
    show (sortedHeap _ s1.heap.objs.size _ out.toArray).get? b = some u
    rw [sortedHeap_old (Nat.ne_of_lt hlt) (by rw [size_push']; exact Nat.lt_succ_of_lt hlt)]
    exact Heap.get?_push_of_some _ q1
end
section
open L2 SrtO
variable {X : Cx}
/-- sorted(set), the set of tuples of texts, bare ones among them -/
def rSortTxE (K : PySem.W.Frag) (P : Program) (w : World) : List V → Hp → VK → Prop := fun vs H Q => ∃ (a : Addr) (L : List (Addr × List Str)), vs = [V.ref a] ∧ H a = some (SetTxO P w a L) ∧ (∀ p ∈ L, SqT K H p.1 (p.2.map V.str)) ∧
  ∀ (M : List (Addr × List Str)) (q : Addr), M.Perm L → M.length < 64 → H q = none → Q (.ref q) (upd H q (.lst ((srtT M).map fun p => V.ref p.1)))
theorem cr_sortTxE (hc : X.calm = true) (hu : X.A.units + 64 < cLine) : CallR X (.builtin "sorted") (rSortTxE X.K X.prog X.w) := by
  intro pins s σ H vs us Q I r h
  obtain ⟨a, L, rfl, ha, hk, q⟩ := h
  have R0 : Members0 (P := X.prog) (w := X.w) s.heap a L := (I.hok a _ ha).1
  obtain ⟨es, ep, t, R⟩ := R0.full fun p hp => txIs I (hk p hp)
  rw [Vals.ref1 r]
  refine sortedTxE R (I.ok.hd hc) (by omega) fun s' p out c M k g o hp hg hout pm => ?_
  have hfew : M.length < 64 := by rw [pm.length_eq]; exact R.few
  have hlen : ((srtT M).map fun q => V.ref q.1).length ≤ sizeLine := by rw [List.length_map, List.length_mergeSort, sizeLine_eq]; omega
  have hnp : H p = none := I.hok.fresh hp
  have hv : Vals ((srtT M).map fun q => V.ref q.1) out := by rw [hout]; exact eq_refs _
  have J : L2.Inv X pins σ (upd H p (.lst ((srtT M).map fun q => V.ref q.1))) { s with heap := s'.heap, gens := s'.gens, drawn := s'.drawn, toks := s'.toks } :=
    I.call (ch := []) (Un.laid k hp hnp) (I.hok.laid k hp ⟨hlen, out, c, hv, hg⟩) (by rw [g]; exact I.bare) (fun _ z => nomatch z)
  have e : s' = { s with heap := s'.heap, gens := s'.gens, drawn := s'.drawn, toks := s'.toks } := by
    cases s'; cases s; cases o; rfl
  rw [e]
  exact ⟨.ref p, _, J, rfl, q M p pm hfew hnp⟩
end
end Rp

/-! Data whose tuples are known to have no attributes of their own, so that their methods can be called; how such tuples come to be. -/
namespace Rp
open PySem PySem.Spec PyProof.Rows L2
def NoD (H : Hp) (a : Addr) : Prop := ∃ o xs, H a = some (.frz o (.tup xs)) ∧ o.dict = none
/-- a list of its own kind: neither frozen nor a module's -/
def PlL (H : Hp) (a : Addr) (vs : List V) : Prop := (H a = some (.lst vs) ∨ False) ∨ False
theorem PlL.get {H : Hp} {a : Addr} {vs : List V} (h : PlL H a vs) : H a = some (.lst vs) := (h.resolve_right id).resolve_right id
theorem PlL.sq {K : PySem.W.Frag} {H : Hp} {a : Addr} {vs : List V} (h : PlL H a vs) : SqL K H a vs := .inl (.inl h.get)
theorem PlL.same {H H' : Hp} {a : Addr} {vs : List V} (s : Same H H') (h : PlL H a vs) : PlL H' a vs := .inl (.inl (s _ _ h.get))
mutual
inductive Dz (K : PySem.W.Frag) (H : Hp) : V → PyData → Prop
  | non : Dz K H .non .none
  | bl (b : Bool) : Dz K H (.bl b) (.bool b)
  | int (i : Int) : Dz K H (.int i) (.int i)
  | str (x : Str) : Dz K H (.str x) (.str x)
  | lst {a : Addr} {vs : List V} {es : List PyData} : PlL H a vs → DzAll K H vs es → Dz K H (.ref a) (.list es)
  | tup {a : Addr} {vs : List V} {es : List PyData} : SqT K H a vs → NoD H a → DzAll K H vs es → Dz K H (.ref a) (.tuple es)
inductive DzAll (K : PySem.W.Frag) (H : Hp) : List V → List PyData → Prop
  | nil : DzAll K H [] []
  | cons {v : V} {vs : List V} {d : PyData} {ds : List PyData} : Dz K H v d → DzAll K H vs ds → DzAll K H (v :: vs) (d :: ds)
end
theorem NoD.same {H H' : Hp} {a : Addr} (s : Same H H') (h : NoD H a) : NoD H' a := by
  obtain ⟨o, xs, e, d⟩ := h
  exact ⟨o, xs, s _ _ e, d⟩
mutual
theorem Dz.same {K : PySem.W.Frag} {H H' : Hp} (e : Same H H') : ∀ {v : V} {d : PyData}, Dz K H v d → Dz K H' v d
  | _, _, .non => .non
  | _, _, .bl b => .bl b
  | _, _, .int i => .int i
  | _, _, .str x => .str x
  | _, _, .lst h a => .lst (h.same e) (DzAll.same e a)
  | _, _, .tup h n a => .tup (Same.seqT e h) (n.same e) (DzAll.same e a)
theorem DzAll.same {K : PySem.W.Frag} {H H' : Hp} (e : Same H H') : ∀ {vs : List V} {ds : List PyData}, DzAll K H vs ds → DzAll K H' vs ds
  | _, _, .nil => .nil
  | _, _, .cons a b => .cons (Dz.same e a) (DzAll.same e b)
end
mutual
theorem Dz.dp {K : PySem.W.Frag} {H : Hp} : ∀ {v : V} {d : PyData}, Dz K H v d → Dp K H v d
  | _, _, .non => .non
  | _, _, .bl b => .bl b
  | _, _, .int i => .int i
  | _, _, .str x => .str x
  | _, _, .lst h a => .lst h.sq (DzAll.dp a)
  | _, _, .tup h n a => .tup h (DzAll.dp a)
theorem DzAll.dp {K : PySem.W.Frag} {H : Hp} : ∀ {vs : List V} {ds : List PyData}, DzAll K H vs ds → DpAll K H vs ds
  | _, _, .nil => .nil
  | _, _, .cons a b => .cons (Dz.dp a) (DzAll.dp b)
end
section
variable {K : PySem.W.Frag} {H : Hp}
theorem DzAll.len {vs : List V} {ds : List PyData} (h : DzAll K H vs ds) : vs.length = ds.length := DpAll.len h.dp
theorem DzAll.at : ∀ {vs : List V} {ds : List PyData} {i : Nat} {v : V}, DzAll K H vs ds → vs[i]? = some v → ∃ d, ds[i]? = some d ∧ Dz K H v d
  | _, _, 0, _, .cons a _, e => by simp at e; subst e; exact ⟨_, rfl, a⟩
  | _, _, i + 1, _, .cons _ b, e => by
    obtain ⟨d, h1, h2⟩ := DzAll.at (i := i) b (by simpa using e)
    exact ⟨d, by simpa using h1, h2⟩
theorem DzAll.snoc : ∀ {xs : List V} {ds : List PyData} {v : V} {d : PyData}, DzAll K H xs ds → Dz K H v d → DzAll K H (xs ++ [v]) (ds ++ [d])
  | _, _, _, _, .nil, h => .cons h .nil
  | _, _, _, _, .cons a t, h => .cons a (DzAll.snoc t h)
theorem dz_strs : ∀ zs : List Str, DzAll K H (zs.map V.str) (zs.map PyData.str)
  | [] => .nil
  | z :: r => .cons (.str z) (dz_strs r)
theorem zip_dz : ∀ {vs : List V} {ds : List PyData}, DzAll K H vs ds → (vs.zip ds).map (·.1) = vs ∧ (vs.zip ds).map (·.2) = ds ∧ ∀ p ∈ vs.zip ds, Dz K H p.1 p.2
  | [], ds, h => by cases h; exact ⟨rfl, rfl, fun _ h => (by cases h)⟩
  | v :: vs, ds, h => by
    cases h with
    | cons h1 t =>
      obtain ⟨a, b, c⟩ := zip_dz t
      refine ⟨by rw [List.zip_cons_cons, List.map_cons, a], by rw [List.zip_cons_cons, List.map_cons, b], fun p hp => ?_⟩
      rw [List.zip_cons_cons] at hp
      rcases List.mem_cons.mp hp with rfl | hp
      · exact h1
      · exact c p hp
theorem dz_zip : ∀ {Z : List (V × PyData)}, (∀ p ∈ Z, Dz K H p.1 p.2) → DzAll K H (Z.map (·.1)) (Z.map (·.2))
  | [], _ => .nil
  | p :: Z, h => .cons (h p List.mem_cons_self) (dz_zip fun q hq => h q (List.mem_cons_of_mem _ hq))
end
/-! ### tuples that come to be -/
section
variable {X : Cx}
theorem laid_tup {pins : List (Addr × Obj)} {σ : L2.St} {H : Hp} {s : Shared} {vs : List V} {us : List Value} {h' : Heap} {t' : Nat} (I : Inv X pins σ H s) (ob : Obj) (k : ∀ b u, s.heap.get? b = some u → h'.get? b = some u) {p : Addr} (hp : s.heap.objs.size ≤ p) (at_ : h'.get? p = some ob) (oc : ob.cls = .type "tuple") {n : Nat} (od : ob.data = .seq us.toArray n) (r : Vals vs us) (z : vs.length ≤ sizeLine) :
    Inv X pins σ (upd H p (.frz ob (.tup vs))) { s with heap := h', toks := t' } :=
  I.laid k hp ⟨at_, z, us, r, ⟨ob, at_, oc, n, od⟩⟩
def tTupZ (t : TA) : TE := fun σ H Q => t σ H fun xs H1 => xs.length ≤ sizeLine ∧ ∀ p ob, H1 p = none → ob.dict = none → Q (.ref p) (upd H1 p (.frz ob (.tup xs)))
theorem pe_tupZ {es : List Expr} {t : TA} {pos : Pos} {x1 : Nat} (h : PA X es t) : PE X (.Tuple es x1 pos) (tTupZ t) := by
  refine ⟨fun pins s σ H Q I hq => ?_⟩
  refine wpAny_Tuple_spliced (thn (h.run pos pins s σ H _ I hq) fun us s1 ⟨xs, H1, I1, r, z, q⟩ => ⟨by rw [← r.length]; exact z, ?_⟩)
  have hf : H1 s1.heap.objs.size = none := I1.hok.fresh (Nat.le_refl _)
  exact ⟨.ref s1.heap.objs.size, _, laid_tup (t' := s1.toks) I1 { cls := .type "tuple", data := .seq us.toArray } (fun b u e => Heap.get?_push_of_some _ e) (Nat.le_refl _) (Heap.get?_push_size _ rfl) rfl rfl r z, rfl, q _ _ hf rfl⟩
def rTupZ (K : PySem.W.Frag) : List V → Hp → VK → Prop := fun xs H Q => ∃ p ys, xs = [.ref p] ∧ ((SqL K H p ys ∧ ∀ l ob, H l = none → ob.dict = none → Q (.ref l) (upd H l (.frz ob (.tup ys)))) ∨ (SqT K H p ys ∧ Q (.ref p) H))
theorem call_tupleZ : CallR X (.type "tuple") (rTupZ X.K) := by
  intro pins s σ H xs us Q I r h
  obtain ⟨p, ys, rfl, h⟩ := h
  obtain ⟨u, rfl, rx⟩ := vals1 r
  cases rx
  rcases h with ⟨hq, q⟩ | ⟨hq, q⟩
  · obtain ⟨its, r', pl, hz⟩ := I.list hq
    have hlen := r'.length
    refine call_tuple_list pl.isList (fun h' kp => ?_) (by simp only [List.size_toArray] <;> omega)
    have I1 : Inv X pins σ H { s with heap := h' } := I.kept (t' := s.toks) kp
    exact ⟨.ref h'.objs.size, _, laid_tup (t' := s.toks) I1 { cls := .type "tuple", data := .seq its.toArray } (fun b o e => Heap.get?_push_of_some _ e) (Nat.le_refl _) (Heap.get?_push_size _ rfl) rfl rfl r' hz, rfl, q _ _ (I1.hok.fresh (Nat.le_refl _)) rfl⟩
  · obtain ⟨its, r', pl, hz⟩ := I.tuple hq
    exact call_tuple_same pl ⟨.ref p, H, I, rfl, q⟩
def rSlTZ (K : PySem.W.Frag) : V → Option Int → Option Int → Hp → VK → Prop := fun x lo hi H Q => ∃ a xs, x = .ref a ∧ SqT K H a xs ∧
  (HT.sIx xs.length 0 lo = 0 ∧ HT.sIx xs.length xs.length hi = xs.length → Q (.ref a) H) ∧ (¬ (HT.sIx xs.length 0 lo = 0 ∧ HT.sIx xs.length xs.length hi = xs.length) → ∀ p ob, H p = none → ob.dict = none → Q (.ref p) (upd H p (.frz ob (.tup (cutV xs lo hi)))))
def rCatZ (K : PySem.W.Frag) : R2 := fun x y H Q => ∃ a b xs ys, x = .ref a ∧ y = .ref b ∧ SqT K H a xs ∧ SqT K H b ys ∧ xs.length + ys.length ≤ sizeLine ∧
  (xs = [] → Q (.ref b) H) ∧ (xs ≠ [] → ys = [] → Q (.ref a) H) ∧ (xs ≠ [] → ys ≠ [] → ∀ p ob, H p = none → ob.dict = none → Q (.ref p) (upd H p (.frz ob (.tup (xs ++ ys)))))
end
end Rp

/-! A level without the heap: variables are data, readable data, lists of one's own, the tape. -/
namespace Rp
open PySem PySem.Spec PyProof.Rows L2
/-- things that are no data: an error that is kept, a dict -/
inductive Ob where
  | exc (C : Addr) (d : PyData) | map (m : List (Key × PyData)) | tmap (m : List (List Key × PyData))
inductive AV where
  | no | dat (d : PyData) | rd (d : PyData) | own (ds : List PyData) | tape | obj (o : Ob) | down (o : Ob)
def MapAt (K : PySem.W.Frag) (H : Hp) (kvs : List (Key × V)) (m : List (Key × PyData)) : Prop := kvs.map (·.1) = m.map (·.1) ∧ DzAll K H (kvs.map (·.2)) (m.map (·.2))
def ObAt (K : PySem.W.Frag) (H : Hp) (v : V) : Ob → Prop
  | .exc C d => ∃ a dd u, v = .ref a ∧ H a = some (ExH a C dd) ∧ H dd = some (.xd [(("what" : Str), u)]) ∧ Dz K H u d
  | .map m => ∃ a kvs, v = .ref a ∧ H a = some (.dK kvs) ∧ MapAt K H kvs m
  | .tmap m => ∃ a kvs, v = .ref a ∧ H a = some (.dT kvs) ∧ kvs.map (·.1) = m.map (·.1) ∧ DzAll K H (kvs.map (·.2)) (m.map (·.2))
theorem ObAt.same {K : PySem.W.Frag} {H H' : Hp} {v : V} {o : Ob} (s : Same H H') (h : ObAt K H v o) : ObAt K H' v o := by
  cases o with
  | exc C d => obtain ⟨a, dd, u, e, h1, h2, h3⟩ := h; exact ⟨a, dd, u, e, s _ _ h1, s _ _ h2, Dz.same s h3⟩
  | map m => obtain ⟨a, kvs, e, h1, h2⟩ := h; exact ⟨a, kvs, e, s _ _ h1, h2.1, DzAll.same s h2.2⟩
  | tmap m => obtain ⟨a, kvs, e, h1, h2⟩ := h; exact ⟨a, kvs, e, s _ _ h1, h2.1, DzAll.same s h2.2⟩
/-- a dict of the frame's own -/
def OwnO (K : PySem.W.Frag) (Hv : Hp) (ho : HO) : Ob → Prop
  | .exc _ _ => False
  | .map m => ∃ kvs, ho = .dK kvs ∧ MapAt K Hv kvs m
  | .tmap m => ∃ kvs, ho = .dT kvs ∧ kvs.map (·.1) = m.map (·.1) ∧ DzAll K Hv (kvs.map (·.2)) (m.map (·.2))
theorem OwnO.same {K : PySem.W.Frag} {H H' : Hp} {ho : HO} {o : Ob} (s : Same H H') (h : OwnO K H ho o) : OwnO K H' ho o := by
  cases o with
  | exc C d => exact h
  | map m => obtain ⟨kvs, e, h2⟩ := h; exact ⟨kvs, e, h2.1, DzAll.same s h2.2⟩
  | tmap m => obtain ⟨kvs, e, h2⟩ := h; exact ⟨kvs, e, h2.1, DzAll.same s h2.2⟩
theorem OwnO.not_lst {K : PySem.W.Frag} {H : Hp} {vs : List V} {o : Ob} (h : OwnO K H (.lst vs) o) : False := by
  cases o with
  | exc C d => exact h
  | map m => obtain ⟨kvs, e, _⟩ := h; cases e
  | tmap m => obtain ⟨kvs, e, _⟩ := h; cases e
theorem OwnO.kind {K : PySem.W.Frag} {H : Hp} {ho : HO} {o : Ob} (h : OwnO K H ho o) : (∃ kvs, ho = .dK kvs) ∨ ∃ kvs, ho = .dT kvs := by
  cases o with
  | exc C d => exact h.elim
  | map m => obtain ⟨kvs, e, _⟩ := h; exact .inl ⟨kvs, e⟩
  | tmap m => obtain ⟨kvs, e, _⟩ := h; exact .inr ⟨kvs, e⟩
def hidV : AV → Bool
  | .own _ => true | .down _ => true | _ => false
structure DS where
  v : List AV
  n : Nat
/-- what may be refused; the tables of code objects that are known, with the name of their codes -/
structure XP where
  ap : Addr → PyData → Prop
  tb : Addr → Str → Prop
instance : CoeFun XP (fun _ => Addr → PyData → Prop) := ⟨XP.ap⟩
abbrev XP.of (f : Addr → PyData → Prop) : XP := ⟨f, fun _ _ => False⟩
instance : Coe (Addr → PyData → Prop) XP := ⟨XP.of⟩
abbrev XP.no : XP := XP.of fun _ _ => False
def over (V0 H H' : Hp) : Hp := fun b => if (H b).isSome then V0 b else H' b
/-- a frame: the heap at its entry, what of it may be told on, the tape, what an error is to do -/
structure Frm (K : PySem.W.Frag) where
  H0 : Hp
  V0 : Hp
  T : Addr → Prop
  /-- lists that are being made -/
  N : Addr → Prop
  E : XK
  X : XP
  sub : Same V0 H0
  nt : ∀ b, T b → V0 b = none
  ta : ∀ b, T b → (H0 b).isSome = true
  one : ∀ a b, (T a ∧ ∀ q, ¬ X.tb a q) → (T b ∧ ∀ q, ¬ X.tb b q) → a = b
  tbT : ∀ b q, X.tb b q → T b := by intro _ _ z; exact False.elim z
  tq : ∀ b q q', X.tb b q → X.tb b q' → q = q' := by intro _ _ _ z; exact False.elim z
  ex : ∀ (C : Addr) (d : PyData) (e : Addr) (v : V) (H' : Hp), X C d → H0 e = none → (∀ b o, H0 b = some o → ¬ T b → H' b = some o) → (∀ b q, X.tb b q → LamX.TabS H' b q) → H' e = some (.xd [("what", v)]) → Dz K (over V0 H0 H') v d → E (.ref C) (some e) H'
open Classical in
noncomputable def vis {K : PySem.W.Frag} (F : Frm K) (hd : Addr → Prop) (H : Hp) : Hp := fun b => if hd b then none else if (F.H0 b).isSome then F.V0 b else H b
open Classical in
noncomputable def rdH {K : PySem.W.Frag} (F : Frm K) (hd : Addr → Prop) (H : Hp) : Hp := fun b => if hd b ∨ F.T b then none else H b
open Classical in
noncomputable def ntH {K : PySem.W.Frag} (F : Frm K) (H : Hp) : Hp := fun b => if F.T b then none else H b
structure Bs {K : PySem.W.Frag} (F : Frm K) (hd : Addr → Prop) (H : Hp) : Prop where
  ev : ∀ b o, F.H0 b = some o → ¬ F.T b → H b = some o
  tp : ∀ b, F.T b → (H b).isSome = true
  hn : ∀ b, hd b → F.H0 b = none
  hs : ∀ b, hd b → (H b).isSome = true
structure Go {K : PySem.W.Frag} (F : Frm K) (hd : Addr → Prop) (H : Hp) (hd' : Addr → Prop) (H' : Hp) : Prop where
  kp : ∀ b o, H b = some o → ¬ F.T b → ¬ hd b → H' b = some o
  less : ∀ b, hd' b → hd b ∨ H b = none
structure Kp {K : PySem.W.Frag} (F : Frm K) (hd : Addr → Prop) (H : Hp) (hd' : Addr → Prop) (H' : Hp) : Prop where
  kp : ∀ b o, H b = some o → ¬ F.T b → H' b = some o
  less : ∀ b, hd' b → hd b
section
variable {K : PySem.W.Frag} {F : Frm K} {hd hd1 hd2 : Addr → Prop} {H H1 H2 : Hp}
theorem Bs.not_t (B : Bs F hd H) {b : Addr} (h : hd b) : ¬ F.T b := fun t => by
  have := F.ta b t; rw [B.hn b h] at this; cases this
theorem Kp.refl : Kp F hd H hd H := ⟨fun _ _ h _ => h, fun _ h => h⟩
theorem Kp.trans (a : Kp F hd H hd1 H1) (b : Kp F hd1 H1 hd2 H2) : Kp F hd H hd2 H2 := ⟨fun c o h t => b.kp c o (a.kp c o h t) t, fun c h => a.less c (b.less c h)⟩
theorem Kp.go (a : Kp F hd H hd1 H1) : Go F hd H hd1 H1 := ⟨fun c o h t _ => a.kp c o h t, fun c h => .inl (a.less c h)⟩
theorem Go.refl : Go F hd H hd H := ⟨fun _ _ h _ _ => h, fun _ h => .inl h⟩
theorem Go.trans (B1 : Bs F hd1 H1) (B2 : Bs F hd2 H2) (a : Go F hd H hd1 H1) (b : Go F hd1 H1 hd2 H2) : Go F hd H hd2 H2 := by
  refine ⟨fun c o h t n => b.kp c o (a.kp c o h t n) t fun z => ?_, fun c h => ?_⟩
  · rcases a.less c z with z | z
    · exact n z
    · rw [h] at z; cases z
  · rcases b.less c h with z | z
    · exact a.less c z
    · by_cases g : hd c
      · exact .inl g
      · right
        cases e : H c with
        | none => rfl
        | some o => rw [a.kp c o e (B2.not_t h) g] at z; cases z
theorem Kp.of_same (s : Same H H1) : Kp F hd H hd H1 := ⟨fun b o h _ => s b o h, fun _ h => h⟩
theorem Bs.kp (B : Bs F hd H) (k : Kp F hd H hd1 H1) (t : ∀ b, F.T b → (H1 b).isSome = true) : Bs F hd1 H1 :=
  ⟨fun b o h t => k.kp b o (B.ev b o h t) t, t, fun b h => B.hn b (k.less b h), fun b h => by
    have h2 := k.less b h
    cases e : H b with
    | none => have := B.hs b h2; rw [e] at this; cases this
    | some o => rw [k.kp b o e (B.not_t h2)]; rfl⟩
theorem vis_some {b : Addr} {o : HO} (h : vis F hd H b = some o) : ¬ hd b ∧ ((F.H0 b = some o ∧ F.V0 b = some o) ∨ (F.H0 b = none ∧ H b = some o)) := by
  unfold vis at h
  by_cases c : hd b
  · rw [if_pos c] at h; cases h
  · rw [if_neg c] at h
    by_cases e : (F.H0 b).isSome = true
    · rw [if_pos e] at h; exact ⟨c, .inl ⟨F.sub b o h, h⟩⟩
    · rw [if_neg e] at h
      exact ⟨c, .inr ⟨by simpa using e, h⟩⟩
theorem vis_old {b : Addr} {o : HO} (c : ¬ hd b) (h : F.V0 b = some o) : vis F hd H b = some o := by
  unfold vis
  rw [if_neg c, if_pos (by rw [F.sub b o h]; rfl)]; exact h
theorem vis_new {b : Addr} (c : ¬ hd b) (h : F.H0 b = none) : vis F hd H b = H b := by
  unfold vis
  rw [if_neg c, if_neg (by rw [h]; simp)]
theorem rd_some {b : Addr} {o : HO} (h : rdH F hd H b = some o) : ¬ hd b ∧ ¬ F.T b ∧ H b = some o := by
  unfold rdH at h
  by_cases c : hd b ∨ F.T b
  · rw [if_pos c] at h; cases h
  · rw [if_neg c] at h; exact ⟨fun z => c (.inl z), fun z => c (.inr z), h⟩
theorem rd_at {b : Addr} (c : ¬ hd b) (t : ¬ F.T b) : rdH F hd H b = H b := by
  unfold rdH
  rw [if_neg (fun z => z.elim c t)]
theorem nt_some {b : Addr} {o : HO} (h : ntH F H b = some o) : ¬ F.T b ∧ H b = some o := by
  unfold ntH at h
  by_cases c : F.T b
  · rw [if_pos c] at h; cases h
  · rw [if_neg c] at h; exact ⟨c, h⟩
theorem nt_at {b : Addr} (t : ¬ F.T b) : ntH F H b = H b := by unfold ntH; rw [if_neg t]
theorem vis_not_t {b : Addr} {o : HO} (h : vis F hd H b = some o) : ¬ F.T b := fun t => by
  rcases (vis_some h).2 with ⟨_, h2⟩ | ⟨h1, _⟩
  · rw [F.nt b t] at h2; cases h2
  · have := F.ta b t; rw [h1] at this; cases this
theorem vis_rd (B : Bs F hd H) : Same (vis F hd H) (rdH F hd H) := fun b o h => by
  have t := vis_not_t h
  obtain ⟨c, h | h⟩ := vis_some h
  · rw [rd_at c t]; exact B.ev b o h.1 t
  · rw [rd_at c t]; exact h.2
theorem rd_nt : Same (rdH F hd H) (ntH F H) := fun b o h => by
  obtain ⟨_, t, h⟩ := rd_some h
  rw [nt_at t]; exact h
theorem nt_in : Same (ntH F H) H := fun b o h => (nt_some h).2
theorem vis_go (B : Bs F hd H) (g : Go F hd H hd1 H1) : Same (vis F hd H) (vis F hd1 H1) := fun b o h => by
  have t := vis_not_t h
  obtain ⟨c, h⟩ := vis_some h
  have hb : H b = some o := h.elim (fun h => B.ev b o h.1 t) (fun h => h.2)
  have c1 : ¬ hd1 b := fun z => (g.less b z).elim c (fun z => by rw [hb] at z; cases z)
  rcases h with h | h
  · exact vis_old c1 h.2
  · rw [vis_new c1 h.1]; exact g.kp b o h.2 t c
theorem rd_go (g : Go F hd H hd1 H1) : Same (rdH F hd H) (rdH F hd1 H1) := fun b o h => by
  obtain ⟨c, t, h⟩ := rd_some h
  have c1 : ¬ hd1 b := fun z => (g.less b z).elim c (fun z => by rw [h] at z; cases z)
  rw [rd_at c1 t]; exact g.kp b o h t c
theorem nt_kp (k : Kp F hd H hd1 H1) : Same (ntH F H) (ntH F H1) := fun b o h => by
  obtain ⟨t, h⟩ := nt_some h
  rw [nt_at t]; exact k.kp b o h t
end
/-! ### what an operand is worth -/
inductive Lv where
  | V | R | SV | SR
def Lv.ch : Lv → Lv
  | .V => .V | .SV => .V | .R => .R | .SR => .R
def Lv.sh : Lv → Lv
  | .V => .SV | .SV => .SV | .R => .SR | .SR => .SR
def sc : PyData → Bool
  | .none => true | .bool _ => true | .int _ => true | .str _ => true | _ => false
def Shell (K : PySem.W.Frag) (Ht Hc : Hp) (v : V) (d : PyData) : Prop := ∃ a vs ds, v = .ref a ∧ ((d = .list ds ∧ PlL Ht a vs) ∨ (d = .tuple ds ∧ SqT K Ht a vs)) ∧ DzAll K Hc vs ds
noncomputable def lvH {K : PySem.W.Frag} (F : Frm K) (hd : Addr → Prop) (H : Hp) : Lv → Hp
  | .V => vis F hd H | .SV => vis F hd H | .R => rdH F hd H | .SR => rdH F hd H
def RV (K : PySem.W.Frag) (F : Frm K) (hd : Addr → Prop) (H : Hp) : Lv → V → PyData → Prop
  | .V, v, d => Dz K (vis F hd H) v d
  | .R, v, d => Dz K (rdH F hd H) v d
  | .SV, v, d => Shell K (ntH F H) (vis F hd H) v d
  | .SR, v, d => Shell K (ntH F H) (rdH F hd H) v d
section
variable {K : PySem.W.Frag} {F : Frm K} {hd hd1 : Addr → Prop} {H H1 : Hp}
theorem Dz.shell {Ha Hb : Hp} {v : V} {d : PyData} (s : Same Ha Hb) (h : Dz K Ha v d) (e : sc d = false) : Shell K Hb Ha v d := by
  cases h with
  | non => simp [sc] at e
  | bl => simp [sc] at e
  | int => simp [sc] at e
  | str => simp [sc] at e
  | lst hs ha => exact ⟨_, _, _, rfl, .inl ⟨rfl, hs.same s⟩, ha⟩
  | tup hs _ ha => exact ⟨_, _, _, rfl, .inr ⟨rfl, Same.seqT s hs⟩, ha⟩
theorem sc_any {Ha Hb : Hp} {v : V} {d : PyData} (h : Dz K Ha v d) (e : sc d = true) : Dz K Hb v d := by
  cases h with
  | non => exact .non
  | bl b => exact .bl b
  | int i => exact .int i
  | str x => exact .str x
  | lst _ _ => simp [sc] at e
  | tup _ _ _ => simp [sc] at e
theorem Shell.dp {Ht Hc Ho : Hp} {v : V} {d : PyData} (h : Shell K Ht Hc v d) (s1 : Same Ht Ho) (s2 : Same Hc Ho) : Dp K Ho v d := by
  obtain ⟨a, vs, ds, rfl, h | h, ha⟩ := h
  · rw [h.1]; exact .lst (s1.seq h.2.sq) (DpAll.same s2 ha.dp)
  · rw [h.1]; exact .tup (Same.seqT s1 h.2) (DpAll.same s2 ha.dp)
/-- no pair that a walk has just made -/
def notP : Lv → PyData → Bool
  | .SV, .tuple _ => false | .SR, .tuple _ => false | _, _ => true
theorem notP_V (x : PyData) : notP .V x = true := by cases x <;> rfl
theorem notP_R (x : PyData) : notP .R x = true := by cases x <;> rfl
theorem notP_l (l : Lv) (xs : List PyData) : notP l (.list xs) = true := by cases l <;> rfl
theorem Shell.dz {Ht Hc Ho : Hp} {v : V} {ds : List PyData} (h : Shell K Ht Hc v (.list ds)) (s1 : Same Ht Ho) (s2 : Same Hc Ho) : Dz K Ho v (.list ds) := by
  obtain ⟨a, vs, ds', rfl, h | h, ha⟩ := h
  · cases h.1; exact .lst (h.2.same s1) (DzAll.same s2 ha)
  · cases h.1
/-- readable, whatever its level -/
theorem RV.nt (B : Bs F hd H) {l : Lv} {v : V} {d : PyData} (h : RV K F hd H l v d) : Dp K (ntH F H) v d := by
  cases l with
  | V => exact (Dz.same ((vis_rd B).trans rd_nt) h).dp
  | R => exact (Dz.same rd_nt h).dp
  | SV => exact h.dp (fun _ _ e => e) ((vis_rd B).trans rd_nt)
  | SR => exact h.dp (fun _ _ e => e) rd_nt
theorem RV.ns (B : Bs F hd H) {l : Lv} {v : V} {d : PyData} (h : RV K F hd H l v d) (n : notP l d = true) : Dz K (ntH F H) v d := by
  cases l with
  | V => exact Dz.same ((vis_rd B).trans rd_nt) h
  | R => exact Dz.same rd_nt h
  | SV =>
    have h : Shell K (ntH F H) (vis F hd H) v d := h
    cases d with
    | list ds => exact h.dz (fun _ _ e => e) ((vis_rd B).trans rd_nt)
    | tuple ds => simp [notP] at n
    | _ => obtain ⟨_, _, _, _, h | h, _⟩ := h <;> cases h.1
  | SR =>
    have h : Shell K (ntH F H) (rdH F hd H) v d := h
    cases d with
    | list ds => exact h.dz (fun _ _ e => e) rd_nt
    | tuple ds => simp [notP] at n
    | _ => obtain ⟨_, _, _, _, h | h, _⟩ := h <;> cases h.1
theorem RV.kp (B : Bs F hd H) (k : Kp F hd H hd1 H1) {l : Lv} {v : V} {d : PyData} (h : RV K F hd H l v d) : RV K F hd1 H1 l v d := by
  cases l with
  | V => exact Dz.same (vis_go B k.go) h
  | R => exact Dz.same (rd_go k.go) h
  | SV =>
    obtain ⟨a, vs, ds, rfl, h, ha⟩ := h
    exact ⟨a, vs, ds, rfl, h.imp (fun h => ⟨h.1, h.2.same (nt_kp k)⟩) (fun h => ⟨h.1, Same.seqT (nt_kp k) h.2⟩), DzAll.same (vis_go B k.go) ha⟩
  | SR =>
    obtain ⟨a, vs, ds, rfl, h, ha⟩ := h
    exact ⟨a, vs, ds, rfl, h.imp (fun h => ⟨h.1, h.2.same (nt_kp k)⟩) (fun h => ⟨h.1, Same.seqT (nt_kp k) h.2⟩), DzAll.same (rd_go k.go) ha⟩
/-- a list or a tuple, its things at their level -/
def Items (d : PyData) (ds : List PyData) : Prop := d = .list ds ∨ d = .tuple ds
theorem RV.seq (B : Bs F hd H) {l : Lv} {v : V} {d : PyData} {ds : List PyData} (h : RV K F hd H l v d) (e : Items d ds) :
    ∃ a vs, v = .ref a ∧ ((d = .list ds ∧ SqL K (ntH F H) a vs) ∨ (d = .tuple ds ∧ SqT K (ntH F H) a vs)) ∧ DzAll K (lvH F hd H l) vs ds := by
  have ns : sc d = false := by rcases e with rfl | rfl <;> rfl
  have sh : Shell K (ntH F H) (lvH F hd H l) v d := by
    cases l with
    | V => exact Dz.shell ((vis_rd B).trans rd_nt) h ns
    | R => exact Dz.shell rd_nt h ns
    | SV => exact h
    | SR => exact h
  obtain ⟨a, vs, ds', rfl, h, ha⟩ := sh
  refine ⟨a, vs, rfl, ?_⟩
  rcases e with rfl | rfl
  · rcases h with h | h
    · cases h.1; exact ⟨.inl ⟨rfl, h.2.sq⟩, ha⟩
    · cases h.1
  · rcases h with h | h
    · cases h.1
    · cases h.1; exact ⟨.inr ⟨rfl, h.2⟩, ha⟩
theorem RV.item {l : Lv} {v : V} {d : PyData} (h : Dz K (lvH F hd H l) v d) : RV K F hd H l.ch v d := by
  cases l <;> exact h
theorem RV.weak (B : Bs F hd H) {l : Lv} {v : V} {d : PyData} (h : Dz K (lvH F hd H l) v d) : Dz K (rdH F hd H) v d := by
  cases l with
  | V => exact Dz.same (vis_rd B) h
  | SV => exact Dz.same (vis_rd B) h
  | R => exact h
  | SR => exact h
end
/-! ### variables -/
/-- the tape -/
def Frm.Tp {K : PySem.W.Frag} (F : Frm K) (a : Addr) : Prop := F.T a ∧ ∀ q, ¬ F.X.tb a q
/-- what holds of a thing that may change: the tape, a table of code objects -/
def CAt {K : PySem.W.Frag} (F : Frm K) (H : Hp) (b : Addr) (n : Nat) : Prop := (∀ q, F.X.tb b q → LamX.TabS H b q) ∧ ((∀ q, ¬ F.X.tb b q) → TapeAt H b n)
theorem CAt.same {K : PySem.W.Frag} {F : Frm K} {H H' : Hp} {b : Addr} {n : Nat} (h : CAt F H b n) (s : Same H H') : CAt F H' b n := ⟨fun q z => (h.1 q z).ext s, fun z => (h.2 z).same s⟩
theorem CAt.new {K : PySem.W.Frag} {F : Frm K} {H : Hp} {b p : Addr} {o : HO} {n : Nat} (h : CAt F H b n) (np : H p = none) : CAt F (upd H p o) b n := h.same (Same.new np)
theorem TabS.lst {H H' : Hp} {b : Addr} {q : Str} (h : LamX.TabS H b q) (k : ∀ c o, H c = some o → (∀ xs, o ≠ .lst xs) → H' c = some o) : LamX.TabS H' b q := by
  obtain ⟨ps, e, tr, cs⟩ := h
  refine ⟨ps, k _ _ e (fun xs z => by cases z), tr, fun pos cv hc => ?_⟩
  obtain ⟨c, ec, hco⟩ := cs pos cv hc
  exact ⟨c, ec, k _ _ hco (fun xs z => by unfold LamX.CodeO at z; cases z)⟩
theorem CAt.lst {K : PySem.W.Frag} {F : Frm K} {H : Hp} {b p : Addr} {xs ys : List V} {n : Nat} (h : CAt F H b n) (hp : H p = some (.lst xs)) (ne : b ≠ p) : CAt F (upd H p (.lst ys)) b n :=
  ⟨fun q z => TabS.lst (h.1 q z) fun c o e no => by rw [upd_ne (fun z => no xs (by rw [z, hp] at e; exact (Option.some.inj e).symm))]; exact e, fun z => (h.2 z).ext (upd_ne ne)⟩
theorem CAt.some {K : PySem.W.Frag} {F : Frm K} {H : Hp} {b : Addr} {n : Nat} (h : CAt F H b n) : (H b).isSome = true := by
  by_cases c : ∃ q, F.X.tb b q
  · obtain ⟨q, z⟩ := c
    obtain ⟨ps, e, _⟩ := h.1 q z
    rw [e]; rfl
  · exact tape_some (h.2 fun q z => c ⟨q, z⟩)
def RepV (K : PySem.W.Frag) (F : Frm K) (hd : Addr → Prop) (H : Hp) (σ : L2.St) (i : Nat) : AV → Prop
  | .no => True
  | .dat d => ∃ v, σ[i]? = some (some v) ∧ Dz K (vis F hd H) v d
  | .rd d => ∃ v, σ[i]? = some (some v) ∧ Dz K (rdH F hd H) v d
  | .own ds => ∃ a vs, σ[i]? = some (some (.ref a)) ∧ (hd a ∧ ¬ F.N a) ∧ H a = some (.lst vs) ∧ DzAll K (vis F hd H) vs ds
  | .tape => ∃ a, σ[i]? = some (some (.ref a)) ∧ F.Tp a
  | .obj o => ∃ v, σ[i]? = some (some v) ∧ ObAt K (vis F hd H) v o
  | .down o => ∃ a ho, σ[i]? = some (some (.ref a)) ∧ (hd a ∧ ¬ F.N a) ∧ H a = some ho ∧ OwnO K (vis F hd H) ho o
structure Rep (K : PySem.W.Frag) (F : Frm K) (hd : Addr → Prop) (σ : L2.St) (H : Hp) (δ : DS) : Prop where
  bs : Bs F hd H
  len : σ.length = δ.v.length
  vars : ∀ (i : Nat) (a : AV), δ.v[i]? = some a → RepV K F hd H σ i a
  cat : ∀ b, F.T b → CAt F H b δ.n
  nH : ∀ b, F.N b → hd b
  sep : ∀ (i j : Nat) (ds es : List PyData) (a : Addr), δ.v[i]? = some (AV.own ds) → δ.v[j]? = some (AV.own es) → σ[i]? = some (some (V.ref a)) → σ[j]? = some (some (V.ref a)) → i = j
section
variable {K : PySem.W.Frag} {F : Frm K} {hd hd1 : Addr → Prop} {σ : L2.St} {H H1 : Hp} {δ : DS}
theorem Rep.tape (r : Rep K F hd σ H δ) (a : Addr) (h : F.Tp a) : TapeAt H a δ.n := (r.cat a h.1).2 h.2
/-- the heap goes on, nothing of one's own is changed, the tape as told -/
theorem Rep.grow (r : Rep K F hd σ H δ) (k : ∀ b o, H b = some o → ¬ F.T b → H1 b = some o) (inc : ∀ b, hd b → hd1 b) (less : ∀ b, hd1 b → hd b ∨ H b = none) (hs : ∀ b, hd1 b → (H1 b).isSome = true) {n : Nat} (t : ∀ b, F.T b → CAt F H1 b n) : Rep K F hd1 σ H1 ⟨δ.v, n⟩ := by
  have g : Go F hd H hd1 H1 := ⟨fun b o h t _ => k b o h t, less⟩
  have hn1 : ∀ b, hd1 b → F.H0 b = none := fun b h => by
    rcases less b h with z | z
    · exact r.bs.hn b z
    · cases e : F.H0 b with
      | none => rfl
      | some o =>
        by_cases tt : F.T b
        · have := r.bs.tp b tt; rw [z] at this; cases this
        · rw [r.bs.ev b o e tt] at z; cases z
  have B1 : Bs F hd1 H1 := ⟨fun b o h t => k b o (r.bs.ev b o h t) t, fun b h => (t b h).some, hn1, hs⟩
  refine ⟨B1, r.len, fun i a e => ?_, t, fun b z => inc b (r.nH b z), r.sep⟩
  have h := r.vars i a e
  cases a with
  | no => trivial
  | dat d => exact h.elim fun v h => ⟨v, h.1, Dz.same (vis_go r.bs g) h.2⟩
  | rd d => exact h.elim fun v h => ⟨v, h.1, Dz.same (rd_go g) h.2⟩
  | own ds =>
    obtain ⟨a, vs, h1, h2, h3, h4⟩ := h
    exact ⟨a, vs, h1, ⟨inc a h2.1, h2.2⟩, k _ _ h3 (r.bs.not_t h2.1), DzAll.same (vis_go r.bs g) h4⟩
  | tape => exact h
  | obj o => exact h.elim fun v h => ⟨v, h.1, ObAt.same (vis_go r.bs g) h.2⟩
  | down o =>
    obtain ⟨a, ho, h1, h2, h3, h4⟩ := h
    exact ⟨a, ho, h1, ⟨inc a h2.1, h2.2⟩, k _ _ h3 (r.bs.not_t h2.1), OwnO.same (vis_go r.bs g) h4⟩
theorem Rep.kp (r : Rep K F hd σ H δ) (k : ∀ b o, H b = some o → ¬ F.T b → H1 b = some o) {n : Nat} (t : ∀ b, F.T b → CAt F H1 b n) : Rep K F hd σ H1 ⟨δ.v, n⟩ :=
  r.grow k (fun _ h => h) (fun _ h => .inl h) (fun b h => by
    have := r.bs.hs b h
    cases e : H b with
    | none => rw [e] at this; cases this
    | some o => rw [k b o e (r.bs.not_t h)]; rfl) t
theorem Rep.same (r : Rep K F hd σ H δ) (s : Same H H1) : Rep K F hd σ H1 δ := r.kp (n := δ.n) (fun b o h _ => s b o h) (fun b h => (r.cat b h).same s)
/-- fresh things are seen -/
theorem Rep.fresh (r : Rep K F hd σ H δ) {p : Addr} (h : H p = none) : ¬ hd p ∧ F.H0 p = none ∧ ¬ F.T p := by
  have t : ¬ F.T p := fun t => by have := r.bs.tp p t; rw [h] at this; cases this
  refine ⟨fun z => (by have := r.bs.hs p z; rw [h] at this; cases this), ?_, t⟩
  cases e : F.H0 p with
  | none => rfl
  | some o => rw [r.bs.ev p o e t] at h; cases h
theorem Rep.seen (r : Rep K F hd σ H δ) {p : Addr} {o : HO} (h : H p = none) : vis F hd (upd H p o) p = some o := by
  obtain ⟨h1, h2, h3⟩ := r.fresh h
  rw [vis_new h1 h2]; exact upd_same
theorem vis_same (B : Bs F hd H) (s : Same H H1) : Same (vis F hd H) (vis F hd H1) := vis_go B (Kp.of_same s).go
/-- a slot is set -/
theorem Rep.set (r : Rep K F hd σ H δ) {i : Nat} {v : V} {a : AV} (h : ∀ σ' : L2.St, (i < σ'.length) → σ'[i]? = some (some v) → RepV K F hd H σ' i a) (no : ∀ ds, a ≠ .own ds) : Rep K F hd (σ.set i (some v)) H ⟨δ.v.set i a, δ.n⟩ := by
  refine ⟨r.bs, by simp [r.len], fun j b e => ?_, r.cat, r.nH, fun j k ds es c e1 e2 e3 e4 => ?_⟩
  · by_cases ij : i = j
    · subst ij
      by_cases il : i < δ.v.length
      · rw [List.getElem?_set_self il] at e
        cases e
        exact h _ (by simp [r.len, il]) (List.getElem?_set_self (by rw [r.len]; exact il))
      · rw [List.getElem?_eq_none (by simp; omega)] at e; cases e
    · rw [List.getElem?_set_ne ij] at e
      have hh := r.vars j b e
      cases b with
      | no => trivial
      | dat d => obtain ⟨v', h1, h2⟩ := hh; exact ⟨v', by rw [List.getElem?_set_ne ij]; exact h1, h2⟩
      | rd d => obtain ⟨v', h1, h2⟩ := hh; exact ⟨v', by rw [List.getElem?_set_ne ij]; exact h1, h2⟩
      | own ds => obtain ⟨a', vs, h1, h2⟩ := hh; exact ⟨a', vs, by rw [List.getElem?_set_ne ij]; exact h1, h2⟩
      | tape => obtain ⟨a', h1, h2⟩ := hh; exact ⟨a', by rw [List.getElem?_set_ne ij]; exact h1, h2⟩
      | obj o => obtain ⟨v', h1, h2⟩ := hh; exact ⟨v', by rw [List.getElem?_set_ne ij]; exact h1, h2⟩
      | down o => obtain ⟨a', ho, h1, h2⟩ := hh; exact ⟨a', ho, by rw [List.getElem?_set_ne ij]; exact h1, h2⟩
  · have ne : ∀ m ds, (δ.v.set i a)[m]? = some (.own ds) → i ≠ m := fun m ds e z => by
      subst z
      by_cases il : i < δ.v.length
      · rw [List.getElem?_set_self il] at e; cases e; exact no ds rfl
      · rw [List.getElem?_eq_none (by simp; omega)] at e; cases e
    have n1 := ne j ds e1
    have n2 := ne k es e2
    rw [List.getElem?_set_ne n1] at e1 e3
    rw [List.getElem?_set_ne n2] at e2 e4
    exact r.sep j k ds es c e1 e2 e3 e4
theorem Rep.setDat (r : Rep K F hd σ H δ) {i : Nat} {v : V} {d : PyData} (h : Dz K (vis F hd H) v d) : Rep K F hd (σ.set i (some v)) H ⟨δ.v.set i (.dat d), δ.n⟩ := r.set (fun σ' _ e => ⟨v, e, h⟩) (fun _ z => by cases z)
theorem Rep.setRd (r : Rep K F hd σ H δ) {i : Nat} {v : V} {d : PyData} (h : Dz K (rdH F hd H) v d) : Rep K F hd (σ.set i (some v)) H ⟨δ.v.set i (.rd d), δ.n⟩ := r.set (fun σ' _ e => ⟨v, e, h⟩) (fun _ z => by cases z)
/-- a slot is forgotten -/
theorem Rep.drop (r : Rep K F hd σ H δ) {i : Nat} {o : Option V} : Rep K F hd (σ.set i o) H ⟨δ.v.set i .no, δ.n⟩ := by
  refine ⟨r.bs, by simp [r.len], fun j b e => ?_, r.cat, r.nH, fun j k ds es c e1 e2 e3 e4 => ?_⟩
  · by_cases ij : i = j
    · subst ij
      by_cases il : i < δ.v.length
      · rw [List.getElem?_set_self il] at e; cases e; trivial
      · rw [List.getElem?_eq_none (by simp; omega)] at e; cases e
    · rw [List.getElem?_set_ne ij] at e
      have hh := r.vars j b e
      cases b with
      | no => trivial
      | dat d => obtain ⟨v', h1, h2⟩ := hh; exact ⟨v', by rw [List.getElem?_set_ne ij]; exact h1, h2⟩
      | rd d => obtain ⟨v', h1, h2⟩ := hh; exact ⟨v', by rw [List.getElem?_set_ne ij]; exact h1, h2⟩
      | own ds => obtain ⟨a', vs, h1, h2⟩ := hh; exact ⟨a', vs, by rw [List.getElem?_set_ne ij]; exact h1, h2⟩
      | tape => obtain ⟨a', h1, h2⟩ := hh; exact ⟨a', by rw [List.getElem?_set_ne ij]; exact h1, h2⟩
      | obj o => obtain ⟨v', h1, h2⟩ := hh; exact ⟨v', by rw [List.getElem?_set_ne ij]; exact h1, h2⟩
      | down o => obtain ⟨a', ho, h1, h2⟩ := hh; exact ⟨a', ho, by rw [List.getElem?_set_ne ij]; exact h1, h2⟩
  · have ne : ∀ m ds, (δ.v.set i .no)[m]? = some (.own ds) → i ≠ m := fun m ds e z => by
      subst z
      by_cases il : i < δ.v.length
      · rw [List.getElem?_set_self il] at e; cases e
      · rw [List.getElem?_eq_none (by simp; omega)] at e; cases e
    have n1 := ne j ds e1
    have n2 := ne k es e2
    rw [List.getElem?_set_ne n1] at e1 e3
    rw [List.getElem?_set_ne n2] at e2 e4
    exact r.sep j k ds es c e1 e2 e3 e4
/-- a list of one's own is told on: from now on it is data -/
theorem Rep.freeze (r : Rep K F hd σ H δ) {i : Nat} {ds : List PyData} (h : δ.v[i]? = some (.own ds)) : ∃ a hd', σ[i]? = some (some (.ref a)) ∧ Kp F hd H hd' H ∧ Rep K F hd' σ H ⟨δ.v.set i (.dat (.list ds)), δ.n⟩ ∧ Dz K (vis F hd' H) (.ref a) (.list ds) := by
  obtain ⟨a, vs, h1, h2, h3, h4⟩ := r.vars i _ h
  have k : Kp F hd H (fun b => hd b ∧ b ≠ a) H := ⟨fun _ _ e _ => e, fun _ e => e.1⟩
  have B1 : Bs F (fun b => hd b ∧ b ≠ a) H := r.bs.kp k r.bs.tp
  have vg := vis_go r.bs k.go
  have dp : Dz K (vis F (fun b => hd b ∧ b ≠ a) H) (.ref a) (.list ds) := .lst (.inl (.inl (by rw [vis_new (fun z => z.2 rfl) (r.bs.hn a h2.1)]; exact h3))) (DzAll.same vg h4)
  refine ⟨a, _, h1, k, ⟨B1, by simp [r.len], fun j b e => ?_, r.cat, fun b z => ⟨r.nH b z, fun e => h2.2 (by rw [← e]; exact z)⟩, fun j l ds' es c e1 e2 e3 e4 => ?_⟩, dp⟩
  · by_cases ij : i = j
    · subst ij
      rw [List.getElem?_set_self (List.getElem?_eq_some_iff.mp h).1] at e
      cases e
      exact ⟨_, h1, dp⟩
    · rw [List.getElem?_set_ne ij] at e
      have hh := r.vars j b e
      cases b with
      | no => trivial
      | dat d => obtain ⟨v', g1, g2⟩ := hh; exact ⟨v', g1, Dz.same vg g2⟩
      | rd d => obtain ⟨v', g1, g2⟩ := hh; exact ⟨v', g1, Dz.same (rd_go k.go) g2⟩
      | own ds' =>
        obtain ⟨a', vs', g1, g2, g3, g4⟩ := hh
        refine ⟨a', vs', g1, ⟨⟨g2.1, fun z => ?_⟩, g2.2⟩, g3, DzAll.same vg g4⟩
        subst z
        exact ij (r.sep i j ds ds' a' h e h1 g1)
      | tape => exact hh
      | obj o => obtain ⟨v', g1, g2⟩ := hh; exact ⟨v', g1, ObAt.same vg g2⟩
      | down o =>
        obtain ⟨a', ho, g1, g2, g3, g4⟩ := hh
        refine ⟨a', ho, g1, ⟨⟨g2.1, fun z => ?_⟩, g2.2⟩, g3, OwnO.same vg g4⟩
        subst z
        rw [h3] at g3; cases g3
        exact g4.not_lst
  · have ne : ∀ m ds', (δ.v.set i (.dat (.list ds)))[m]? = some (.own ds') → i ≠ m := fun m ds' e z => by
      subst z
      rw [List.getElem?_set_self (List.getElem?_eq_some_iff.mp h).1] at e; cases e
    have n1 := ne j ds' e1
    have n2 := ne l es e2
    rw [List.getElem?_set_ne n1] at e1
    rw [List.getElem?_set_ne n2] at e2
    exact r.sep j l ds' es c e1 e2 e3 e4
/-- no more is hidden than must be -/
def hdM {K : PySem.W.Frag} (F : Frm K) (σ : L2.St) (v : List AV) (b : Addr) : Prop := (∃ (i : Nat) (x : AV), (v[i]? = some x ∧ hidV x = true) ∧ σ[i]? = some (some (V.ref b))) ∨ F.N b
theorem Rep.hid (r : Rep K F hd σ H δ) {i : Nat} {x : AV} {b : Addr} (e : δ.v[i]? = some x ∧ hidV x = true) (eb : σ[i]? = some (some (V.ref b))) : hd b ∧ ¬ F.N b := by
  have h := r.vars i x e.1
  cases x with
  | own ds => obtain ⟨a, vs, h1, h2, _⟩ := h; rw [eb] at h1; cases h1; exact h2
  | down o => obtain ⟨a, vs, h1, h2, _⟩ := h; rw [eb] at h1; cases h1; exact h2
  | _ => exact absurd e.2 (by simp [hidV])
theorem Rep.min (r : Rep K F hd σ H δ) : (∀ b, hdM F σ δ.v b → hd b) ∧ Rep K F (hdM F σ δ.v) σ H δ := by
  have sub : ∀ b, hdM F σ δ.v b → hd b := fun b h => by
    rcases h with ⟨i, ds, e1, e2⟩ | h
    · exact (r.hid e1 e2).1
    · exact r.nH b h
  have k : Kp F hd H (hdM F σ δ.v) H := ⟨fun _ _ e _ => e, sub⟩
  refine ⟨sub, r.bs.kp k r.bs.tp, r.len, fun i a e => ?_, r.cat, fun b z => .inr z, r.sep⟩
  have h := r.vars i a e
  cases a with
  | no => trivial
  | dat d => exact h.elim fun v h => ⟨v, h.1, Dz.same (vis_go r.bs k.go) h.2⟩
  | rd d => exact h.elim fun v h => ⟨v, h.1, Dz.same (rd_go k.go) h.2⟩
  | own ds =>
    obtain ⟨a, vs, h1, h2, h3, h4⟩ := h
    exact ⟨a, vs, h1, ⟨.inl ⟨i, _, ⟨e, rfl⟩, h1⟩, h2.2⟩, h3, DzAll.same (vis_go r.bs k.go) h4⟩
  | tape => exact h
  | obj o => exact h.elim fun v h => ⟨v, h.1, ObAt.same (vis_go r.bs k.go) h.2⟩
  | down o =>
    obtain ⟨a, ho, h1, h2, h3, h4⟩ := h
    exact ⟨a, ho, h1, ⟨.inl ⟨i, _, ⟨e, rfl⟩, h1⟩, h2.2⟩, h3, OwnO.same (vis_go r.bs k.go) h4⟩
/-- one more list is being made -/
def Frm.more (F : Frm K) (D : Addr) : Frm K := { F with N := fun b => F.N b ∨ b = D }
theorem Rep.inner (r : Rep K F hd σ H δ) {D : Addr} (nD : H D = none) (k : ∀ b o, H b = some o → ¬ F.T b → H1 b = some o) (eD : (H1 D).isSome = true) {n : Nat} (t : ∀ b, F.T b → CAt F H1 b n) : Rep K (F.more D) (fun b => hd b ∨ b = D) σ H1 ⟨δ.v, n⟩ := by
  have g : Rep K F (fun b => hd b ∨ b = D) σ H1 ⟨δ.v, n⟩ := r.grow k (fun _ z => .inl z) (fun b z => z.elim .inl fun z => .inr (by rw [z]; exact nD)) (fun b z => by
    rcases z with z | z
    · have := r.bs.hs b z
      cases e : H b with
      | none => rw [e] at this; cases this
      | some o => rw [k b o e (r.bs.not_t z)]; rfl
    · rw [z]; exact eD) t
  refine ⟨⟨g.bs.ev, g.bs.tp, g.bs.hn, g.bs.hs⟩, g.len, fun i a e => ?_, g.cat, fun b z => z.elim (fun z => .inl (r.nH b z)) .inr, g.sep⟩
  have h := g.vars i a e
  cases a with
  | no => trivial
  | dat d => exact h
  | rd d => exact h
  | own ds =>
    obtain ⟨a, vs, h1, h2, h3, h4⟩ := h
    refine ⟨a, vs, h1, ⟨h2.1, fun z => z.elim h2.2 fun z => ?_⟩, h3, h4⟩
    obtain ⟨a', vs', g1, _, g3, _⟩ := r.vars i _ e
    rw [h1] at g1; cases g1
    rw [z, nD] at g3; cases g3
  | tape => exact h
  | obj o => exact h
  | down o =>
    obtain ⟨a, ho, h1, h2, h3, h4⟩ := h
    refine ⟨a, ho, h1, ⟨h2.1, fun z => z.elim h2.2 fun z => ?_⟩, h3, h4⟩
    obtain ⟨a', vs', g1, _, g3, _⟩ := r.vars i _ e
    rw [h1] at g1; cases g1
    rw [z, nD] at g3; cases g3
end
end Rp

/-! Expressions at the level without the heap. -/
namespace Rp
open PySem PySem.Spec PyProof.Rows L2
abbrev TD := XP → DS → (PyData → DS → Prop) → Prop
abbrev TRd := XP → DS → (Lv → PyData → DS → Prop) → Prop
abbrev TDt := XP → DS → (Bool → DS → Prop) → Prop
abbrev TDa := XP → DS → (List PyData → DS → Prop) → Prop
def Out (K : PySem.W.Frag) (F : Frm K) (hd : Addr → Prop) (σ : L2.St) (H : Hp) (Q : VK) (d : PyData) (δ' : DS) : Prop := ∀ v hd' H', Kp F hd H hd' H' → Rep K F hd' σ H' δ' → Dz K (vis F hd' H') v d → Q v H'
def OutR (K : PySem.W.Frag) (F : Frm K) (hd : Addr → Prop) (σ : L2.St) (H : Hp) (Q : VK) (l : Lv) (d : PyData) (δ' : DS) : Prop := ∀ v hd' H', Kp F hd H hd' H' → Rep K F hd' σ H' δ' → RV K F hd' H' l v d → Q v H'
def OutT (K : PySem.W.Frag) (F : Frm K) (hd : Addr → Prop) (σ : L2.St) (H : Hp) (Q : Bool → Hp → Prop) (b : Bool) (δ' : DS) : Prop := ∀ hd' H', Kp F hd H hd' H' → Rep K F hd' σ H' δ' → Q b H'
/-- a value -/
class PuE (K : PySem.W.Frag) (E : XK) (t : TE) (w : outParam TD) : Prop where
  mono : ∀ {X : XP} {δ : DS} {Q Q' : PyData → DS → Prop}, (∀ d δ', Q d δ' → Q' d δ') → w X δ Q → w X δ Q'
  run : ∀ {F : Frm K} {hd : Addr → Prop} {σ : L2.St} {H : Hp} {δ : DS} {Q : VK}, F.E = E → Rep K F hd σ H δ → w F.X δ (Out K F hd σ H Q) → t σ H Q
/-- an operand that is read -/
class PuR (K : PySem.W.Frag) (E : XK) (t : TE) (w : outParam TRd) : Prop where
  mono : ∀ {X : XP} {δ : DS} {Q Q' : Lv → PyData → DS → Prop}, (∀ l d δ', Q l d δ' → Q' l d δ') → w X δ Q → w X δ Q'
  run : ∀ {F : Frm K} {hd : Addr → Prop} {σ : L2.St} {H : Hp} {δ : DS} {Q : VK}, F.E = E → Rep K F hd σ H δ → w F.X δ (OutR K F hd σ H Q) → t σ H Q
class PuT (K : PySem.W.Frag) (E : XK) (t : TT) (w : outParam TDt) : Prop where
  mono : ∀ {X : XP} {δ : DS} {Q Q' : Bool → DS → Prop}, (∀ d δ', Q d δ' → Q' d δ') → w X δ Q → w X δ Q'
  run : ∀ {F : Frm K} {hd : Addr → Prop} {σ : L2.St} {H : Hp} {δ : DS} {Q : Bool → Hp → Prop}, F.E = E → Rep K F hd σ H δ → w F.X δ (OutT K F hd σ H Q) → t σ H Q
section
variable {K : PySem.W.Frag} {E : XK}
/-! ### names, constants -/
def dV : V → Option PyData
  | .non => some .none | .bl b => some (.bool b) | .int i => some (.int i) | .str x => some (.str x) | _ => none
theorem dp_dV {H : Hp} {v : V} {d : PyData} (h : dV v = some d) : Dz K H v d := by
  cases v <;> simp [dV] at h <;> subst h
  · exact .non
  · exact .bl _
  · exact .int _
  · exact .str _
def dC (v : V) : TD := fun _ δ Q => ∃ d, dV v = some d ∧ Q d δ
instance {v : V} : PuE K E (tC v) (dC v) where
  mono h := fun ⟨d, e, q⟩ => ⟨d, e, h _ _ q⟩
  run _ r := fun ⟨d, e, q⟩ => q _ _ _ .refl r (dp_dV e)
def dVar (i : Nat) : TD := fun _ δ Q => match δ.v[i]? with
  | some (.dat d) => Q d δ
  | some (.rd d) => sc d = true ∧ Q d δ
  | some (.own ds) => Q (.list ds) ⟨δ.v.set i (.dat (.list ds)), δ.n⟩
  | _ => False
instance {i : Nat} : PuE K E (tVar i) (dVar i) where
  mono {X δ Q Q'} h := by
    unfold dVar
    split
    · exact h _ _
    · exact fun q => ⟨q.1, h _ _ q.2⟩
    · exact h _ _
    · exact fun q => q
  run {F hd σ H δ Q} _ r q := by
    unfold dVar at q
    split at q
    · rename_i d e
      obtain ⟨v, h1, h2⟩ := r.vars i _ e
      exact ⟨v, h1, q _ _ _ .refl r h2⟩
    · rename_i d e
      obtain ⟨v, h1, h2⟩ := r.vars i _ e
      exact ⟨v, h1, q.2 _ _ _ .refl r (sc_any h2 q.1)⟩
    · rename_i ds e
      obtain ⟨a, hd', h1, k, r', dp⟩ := r.freeze e
      exact ⟨_, h1, q _ _ _ k r' dp⟩
    · exact q.elim
def dRd (i : Nat) : TRd := fun _ δ Q => match δ.v[i]? with
  | some (.dat d) => Q .V d δ
  | some (.rd d) => Q .R d δ
  | some (.own ds) => Q .SV (.list ds) δ
  | _ => False
instance {i : Nat} : PuR K E (tVar i) (dRd i) where
  mono {X δ Q Q'} h := by
    unfold dRd
    split <;> first | exact h _ _ _ | exact fun q => q
  run {F hd σ H δ Q} _ r q := by
    unfold dRd at q
    split at q
    · rename_i d e
      obtain ⟨v, h1, h2⟩ := r.vars i _ e
      exact ⟨v, h1, q _ _ _ .refl r h2⟩
    · rename_i d e
      obtain ⟨v, h1, h2⟩ := r.vars i _ e
      exact ⟨v, h1, q _ _ _ .refl r h2⟩
    · rename_i ds e
      obtain ⟨a, vs, h1, h2, h3, h4⟩ := r.vars i _ e
      exact ⟨_, h1, q _ _ _ .refl r ⟨a, vs, ds, rfl, .inl ⟨rfl, .inl (.inl (by rw [nt_at (r.bs.not_t h2.1)]; exact h3))⟩, h4⟩⟩
    · exact q.elim
def dVal (w : TD) : TRd := fun X δ Q => w X δ (Q .V)
instance (priority := 100) {t : TE} {w : TD} [p : PuE K E t w] : PuR K E t (dVal w) where
  mono h := p.mono (fun d δ' => h _ d δ')
  run e r q := p.run e r q
/-! ### two operands -/
theorem bin2 {ta tb : TE} {wa wb : TRd} [pa : PuR K E ta wa] [pb : PuR K E tb wb] {F : Frm K} {hd : Addr → Prop} {σ : L2.St} {H : Hp} {δ : DS} {W : Lv → PyData → Lv → PyData → DS → Prop} {R : V → V → Hp → Prop} (hE : F.E = E) (r : Rep K F hd σ H δ)
    (h : wa F.X δ fun l x δ1 => wb F.X δ1 fun m y δ2 => W l x m y δ2)
    (f : ∀ l x m y δ2 v u hd2 H2, Kp F hd H hd2 H2 → Rep K F hd2 σ H2 δ2 → RV K F hd2 H2 l v x → RV K F hd2 H2 m u y → W l x m y δ2 → R v u H2) : ta σ H fun v H1 => tb σ H1 fun u H2 => R v u H2 := by
  refine pa.run hE r (pa.mono (fun l x δ1 h1 => ?_) h)
  intro v hd1 H1 k1 r1 d1
  refine pb.run hE r1 (pb.mono (fun m y δ2 h2 => ?_) h1)
  intro u hd2 H2 k2 r2 d2
  exact f l x m y δ2 v u hd2 H2 (k1.trans k2) r2 (d1.kp r1.bs k2) d2 h2
theorem RV.int {F : Frm K} {hd : Addr → Prop} {H : Hp} {l : Lv} {v : V} {i : Int} (B : Bs F hd H) (h : RV K F hd H l v (.int i)) : v = .int i := by
  have := h.nt B; cases this; rfl
theorem RV.bool {F : Frm K} {hd : Addr → Prop} {H : Hp} {l : Lv} {v : V} {i : Bool} (B : Bs F hd H) (h : RV K F hd H l v (.bool i)) : v = .bl i := by
  have := h.nt B; cases this; rfl
theorem RV.str {F : Frm K} {hd : Addr → Prop} {H : Hp} {l : Lv} {v : V} {i : Str} (B : Bs F hd H) (h : RV K F hd H l v (.str i)) : v = .str i := by
  have := h.nt B; cases this; rfl
/-! ### operators -/
def dOp (f : PyData → PyData → (PyData → Prop) → Prop) (wa wb : TRd) : TD := fun X δ Q => wa X δ fun _ x δ1 => wb X δ1 fun _ y δ2 => f x y fun d => Q d δ2
def fI (C : Int → Int → Prop) (g : Int → Int → V) : PyData → PyData → (PyData → Prop) → Prop := fun x y Q => ∃ i j, x = .int i ∧ y = .int j ∧ C i j ∧ ∃ d, dV (g i j) = some d ∧ Q d
instance {C : Int → Int → Prop} {g : Int → Int → V} {ta tb : TE} {wa wb : TRd} [pa : PuR K E ta wa] [pb : PuR K E tb wb] : PuE K E (tOp (rI C g) ta tb) (dOp (fI C g) wa wb) where
  mono h := pa.mono fun _ _ _ => pb.mono fun _ _ _ ⟨i, j, e1, e2, c, d, e3, q⟩ => ⟨i, j, e1, e2, c, d, e3, h _ _ q⟩
  run hE r q := bin2 hE r q fun l x m y δ2 v u hd2 H2 k r2 d1 d2 ⟨i, j, e1, e2, c, d, e3, q⟩ => ⟨i, j, by subst e1; exact d1.int r2.bs, by subst e2; exact d2.int r2.bs, c, q _ _ _ k r2 (dp_dV e3)⟩
def fI0 (g : Int → Int → V) : PyData → PyData → (PyData → Prop) → Prop := fun x y Q => ∃ i j, x = .int i ∧ y = .int j ∧ ∃ d, dV (g i j) = some d ∧ Q d
instance {g : Int → Int → V} {ta tb : TE} {wa wb : TRd} [pa : PuR K E ta wa] [pb : PuR K E tb wb] : PuE K E (tOp (rI0 g) ta tb) (dOp (fI0 g) wa wb) where
  mono h := pa.mono fun _ _ _ => pb.mono fun _ _ _ ⟨i, j, e1, e2, d, e3, q⟩ => ⟨i, j, e1, e2, d, e3, h _ _ q⟩
  run hE r q := bin2 hE r q fun l x m y δ2 v u hd2 H2 k r2 d1 d2 ⟨i, j, e1, e2, d, e3, q⟩ => ⟨i, j, by subst e1; exact d1.int r2.bs, by subst e2; exact d2.int r2.bs, q _ _ _ k r2 (dp_dV e3)⟩
/-- == of scalars -/
def scD : PyData → PyData → Bool
  | .bool _, .int _ => false | .int _, .bool _ => false | x, y => sc x && sc y
def eqS : PyData → PyData → Bool
  | .none, .none => true | .bool a, .bool b => decide (a = b) | .int a, .int b => decide (a = b) | .str a, .str b => decide (a = b) | _, _ => false
theorem eqS_ok {Ha Hb : Hp} {v u : V} {x y : PyData} (h1 : Dp K Ha v x) (h2 : Dp K Hb u y) (e : scD x y = true) : scal v u = true ∧ decide (v = u) = eqS x y := by
  cases h1 <;> cases h2 <;> simp [scD, sc] at e <;> simp [scal, eqS]
def fEq : PyData → PyData → (PyData → Prop) → Prop := fun x y Q => scD x y = true ∧ Q (.bool (eqS x y))
def fNe : PyData → PyData → (PyData → Prop) → Prop := fun x y Q => scD x y = true ∧ Q (.bool (!eqS x y))
instance {ta tb : TE} {wa wb : TRd} [pa : PuR K E ta wa] [pb : PuR K E tb wb] : PuE K E (tOp rEq ta tb) (dOp fEq wa wb) where
  mono h := pa.mono fun _ _ _ => pb.mono fun _ _ _ ⟨e, q⟩ => ⟨e, h _ _ q⟩
  run hE r q := bin2 hE r q fun l x m y δ2 v u hd2 H2 k r2 d1 d2 ⟨e, q⟩ => by
    obtain ⟨e1, e2⟩ := eqS_ok (d1.nt r2.bs) (d2.nt r2.bs) e
    exact ⟨e1, by rw [e2]; exact q _ _ _ k r2 (.bl _)⟩
instance {ta tb : TE} {wa wb : TRd} [pa : PuR K E ta wa] [pb : PuR K E tb wb] : PuE K E (tOp rNe ta tb) (dOp fNe wa wb) where
  mono h := pa.mono fun _ _ _ => pb.mono fun _ _ _ ⟨e, q⟩ => ⟨e, h _ _ q⟩
  run hE r q := bin2 hE r q fun l x m y δ2 v u hd2 H2 k r2 d1 d2 ⟨e, q⟩ => by
    obtain ⟨e1, e2⟩ := eqS_ok (d1.nt r2.bs) (d2.nt r2.bs) e
    exact ⟨e1, by rw [e2]; exact q _ _ _ k r2 (.bl _)⟩
/-- == of data -/
def fEqD : PyData → PyData → (PyData → Prop) → Prop := fun x y Q => SeqAt.shaped x = true ∧ SeqAt.shaped y = true ∧ Q (.bool (PyData.eqv x y))
def fNeD : PyData → PyData → (PyData → Prop) → Prop := fun x y Q => SeqAt.shaped x = true ∧ SeqAt.shaped y = true ∧ Q (.bool (!PyData.eqv x y))
instance {ta tb : TE} {wa wb : TRd} [pa : PuR K E ta wa] [pb : PuR K E tb wb] : PuE K E (tOp (rEqD K) ta tb) (dOp fEqD wa wb) where
  mono h := pa.mono fun _ _ _ => pb.mono fun _ _ _ ⟨e, f, q⟩ => ⟨e, f, h _ _ q⟩
  run hE r q := bin2 hE r q fun l x m y δ2 v u hd2 H2 k r2 d1 d2 ⟨e, f, q⟩ => ⟨x, y, Dp.same nt_in (d1.nt r2.bs), Dp.same nt_in (d2.nt r2.bs), e, f, q _ _ _ k r2 (.bl _)⟩
instance {ta tb : TE} {wa wb : TRd} [pa : PuR K E ta wa] [pb : PuR K E tb wb] : PuE K E (tOp (rNeD K) ta tb) (dOp fNeD wa wb) where
  mono h := pa.mono fun _ _ _ => pb.mono fun _ _ _ ⟨e, f, q⟩ => ⟨e, f, h _ _ q⟩
  run hE r q := bin2 hE r q fun l x m y δ2 v u hd2 H2 k r2 d1 d2 ⟨e, f, q⟩ => ⟨x, y, Dp.same nt_in (d1.nt r2.bs), Dp.same nt_in (d2.nt r2.bs), e, f, q _ _ _ k r2 (.bl _)⟩
/-- is None -/
def isNo : PyData → Bool
  | .none => true | _ => false
theorem isNo_ok {Ha : Hp} {v : V} {x : PyData} (h : Dp K Ha v x) : decide (v = .non) = isNo x := by cases h <;> simp [isNo]
instance {ta tb : TE} {wa wb : TRd} [pa : PuR K E ta wa] [pb : PuR K E tb wb] : PuE K E (tOp rIsN ta tb) (dOp (fun x y Q => y = .none ∧ Q (.bool (isNo x))) wa wb) where
  mono h := pa.mono fun _ _ _ => pb.mono fun _ _ _ ⟨e, q⟩ => ⟨e, h _ _ q⟩
  run hE r q := bin2 hE r q fun l x m y δ2 v u hd2 H2 k r2 d1 d2 ⟨e, q⟩ => by
    subst e
    have d2 := d2.nt r2.bs
    cases d2
    exact ⟨rfl, by rw [isNo_ok (d1.nt r2.bs)]; exact q _ _ _ k r2 (.bl _)⟩
instance {ta tb : TE} {wa wb : TRd} [pa : PuR K E ta wa] [pb : PuR K E tb wb] : PuE K E (tOp rNotN ta tb) (dOp (fun x y Q => y = .none ∧ Q (.bool (!isNo x))) wa wb) where
  mono h := pa.mono fun _ _ _ => pb.mono fun _ _ _ ⟨e, q⟩ => ⟨e, h _ _ q⟩
  run hE r q := bin2 hE r q fun l x m y δ2 v u hd2 H2 k r2 d1 d2 ⟨e, q⟩ => by
    subst e
    have d2 := d2.nt r2.bs
    cases d2
    exact ⟨rfl, by rw [isNo_ok (d1.nt r2.bs)]; exact q _ _ _ k r2 (.bl _)⟩
/-- x in xs, scalars -/
def eqF : PyData → PyData → Bool
  | .none, .none => true | .bool a, .bool b => a == b | .bool a, .int b => (if a then 1 else 0) == b | .int a, .bool b => a == (if b then 1 else 0) | .int a, .int b => a == b | .str a, .str b => a == b | _, _ => false
def inD (x : PyData) (ds : List PyData) : Bool := ds.any fun y => eqF y x
theorem eqF_ok {Ha Hb : Hp} {v u : V} {x y : PyData} (h1 : Dp K Ha v x) (h2 : Dp K Hb u y) (e : sc x = true) (f : sc y = true) : flatV v = true ∧ flatV u = true ∧ eqV v u = eqF x y := by
  cases h1 <;> cases h2 <;> simp [sc] at e f <;> exact ⟨rfl, rfl, rfl⟩
theorem inD_ok {Ha Hb : Hp} {v : V} {x : PyData} (h1 : Dp K Ha v x) (e : sc x = true) : ∀ {us : List V} {ds : List PyData}, DzAll K Hb us ds → ds.all sc = true → us.all flatV = true ∧ inV v us = inD x ds
  | _, _, .nil, _ => ⟨rfl, rfl⟩
  | _, _, .cons h t, f => by
    rw [List.all_cons, Bool.and_eq_true] at f
    obtain ⟨a, b⟩ := inD_ok h1 e t f.2
    obtain ⟨g1, g2, g3⟩ := eqF_ok h.dp h1 f.1 e
    refine ⟨by rw [List.all_cons, g1, a]; rfl, ?_⟩
    unfold inV inD at b ⊢
    rw [List.any_cons, List.any_cons, b, g3]
theorem sc_flat {Ha : Hp} {v : V} {x : PyData} (h1 : Dp K Ha v x) (e : sc x = true) : flatV v = true := by
  cases h1 <;> simp [sc] at e <;> rfl
def fIn (neg : Bool) : PyData → PyData → (PyData → Prop) → Prop := fun x y Q => ∃ ds, Items y ds ∧ sc x = true ∧ ds.all sc = true ∧ Q (.bool (if neg then !inD x ds else inD x ds))
instance {neg : Bool} {ta tb : TE} {wa wb : TRd} [pa : PuR K E ta wa] [pb : PuR K E tb wb] : PuE K E (tOp (rIn K neg) ta tb) (dOp (fIn neg) wa wb) where
  mono h := pa.mono fun _ _ _ => pb.mono fun _ _ _ ⟨ds, i, e, f, q⟩ => ⟨ds, i, e, f, h _ _ q⟩
  run hE r q := bin2 hE r q fun l x m y δ2 v u hd2 H2 k r2 d1 d2 ⟨ds, i, e, f, q⟩ => by
    obtain ⟨a, vs, rfl, hs, ha⟩ := d2.seq r2.bs i
    have h1 := d1.nt r2.bs
    obtain ⟨g1, g2⟩ := inD_ok h1 e ha f
    exact ⟨a, vs, rfl, hs.imp (fun h => nt_in.seq h.2) (fun h => Same.seqT nt_in h.2), sc_flat h1 e, g1, by rw [g2]; exact q _ _ _ k r2 (.bl _)⟩
/-! ### places -/
theorem DzAll.atI {H : Hp} {vs : List V} {ds : List PyData} {i : Int} {d : PyData} (h : DzAll K H vs ds) (e : L2.atI ds i = some d) : ∃ v, L2.atI vs i = some v ∧ Dz K H v d := by
  unfold L2.atI at e ⊢
  rw [DzAll.len h]
  obtain ⟨j, e1, e2⟩ := Option.bind_eq_some_iff.mp e
  have lj := (List.getElem?_eq_some_iff.mp e2).1
  obtain ⟨d', g1, g2⟩ := DzAll.at (v := vs[j]'(by rw [DzAll.len h]; exact lj)) h (List.getElem?_eq_getElem _)
  rw [e2] at g1; cases g1
  exact ⟨_, by rw [e1, Option.bind_some]; exact List.getElem?_eq_getElem _, g2⟩
/-- x[i]: as it is read -/
def dIxR (wa wb : TRd) : TRd := fun X δ Q => wa X δ fun l x δ1 => wb X δ1 fun _ y δ2 => ∃ ds i d, Items x ds ∧ y = .int i ∧ L2.atI ds i = some d ∧ Q l.ch d δ2
def dIx (wa wb : TRd) : TD := fun X δ Q => wa X δ fun l x δ1 => wb X δ1 fun _ y δ2 => ∃ ds i d, Items x ds ∧ y = .int i ∧ L2.atI ds i = some d ∧ (l.ch = .V ∨ sc d = true) ∧ Q d δ2
theorem up_ch {F : Frm K} {hd : Addr → Prop} {H : Hp} {l : Lv} {v : V} {d : PyData} (h : Dz K (lvH F hd H l) v d) (e : l.ch = .V ∨ sc d = true) : Dz K (vis F hd H) v d := by
  rcases e with e | e
  · cases l <;> simp [Lv.ch] at e <;> exact h
  · exact sc_any h e
instance {ta tb : TE} {wa wb : TRd} [pa : PuR K E ta wa] [pb : PuR K E tb wb] : PuR K E (tOp (rIx K) ta tb) (dIxR wa wb) where
  mono h := pa.mono fun _ _ _ => pb.mono fun _ _ _ ⟨ds, i, d, e1, e2, e3, q⟩ => ⟨ds, i, d, e1, e2, e3, h _ _ _ q⟩
  run hE r q := bin2 hE r q fun l x m y δ2 v u hd2 H2 k r2 d1 d2 ⟨ds, i, d, e1, e2, e3, q⟩ => by
    subst e2
    have := d2.int r2.bs
    subst this
    obtain ⟨a, vs, rfl, hs, ha⟩ := d1.seq r2.bs e1
    obtain ⟨z, g1, g2⟩ := DzAll.atI ha e3
    rcases hs with hs | hs
    · exact .inl ⟨a, vs, i, z, rfl, rfl, nt_in.seq hs.2, g1, q _ _ _ k r2 (RV.item g2)⟩
    · exact .inr (.inl ⟨a, vs, i, z, rfl, rfl, Same.seqT nt_in hs.2, g1, q _ _ _ k r2 (RV.item g2)⟩)
instance {ta tb : TE} {wa wb : TRd} [pa : PuR K E ta wa] [pb : PuR K E tb wb] : PuE K E (tOp (rIx K) ta tb) (dIx wa wb) where
  mono h := pa.mono fun _ _ _ => pb.mono fun _ _ _ ⟨ds, i, d, e1, e2, e3, c, q⟩ => ⟨ds, i, d, e1, e2, e3, c, h _ _ q⟩
  run hE r q := bin2 hE r q fun l x m y δ2 v u hd2 H2 k r2 d1 d2 ⟨ds, i, d, e1, e2, e3, c, q⟩ => by
    subst e2
    have := d2.int r2.bs
    subst this
    obtain ⟨a, vs, rfl, hs, ha⟩ := d1.seq r2.bs e1
    obtain ⟨z, g1, g2⟩ := DzAll.atI ha e3
    rcases hs with hs | hs
    · exact .inl ⟨a, vs, i, z, rfl, rfl, nt_in.seq hs.2, g1, q _ _ _ k r2 (up_ch g2 c)⟩
    · exact .inr (.inl ⟨a, vs, i, z, rfl, rfl, Same.seqT nt_in hs.2, g1, q _ _ _ k r2 (up_ch g2 c)⟩)
/-- x[i] of a text -/
def fIxS : PyData → PyData → (PyData → Prop) → Prop := fun x y Q => ∃ z i c, x = .str z ∧ y = .int i ∧ z.length ≤ sizeLine ∧ L2.atI z.cps.toList i = some c ∧ Q (.str ⟨#[c]⟩)
instance {ta tb : TE} {wa wb : TRd} [pa : PuR K E ta wa] [pb : PuR K E tb wb] : PuE K E (tOp rIxS ta tb) (dOp fIxS wa wb) where
  mono h := pa.mono fun _ _ _ => pb.mono fun _ _ _ ⟨z, i, c, e1, e2, e3, e4, q⟩ => ⟨z, i, c, e1, e2, e3, e4, h _ _ q⟩
  run hE r q := bin2 hE r q fun l x m y δ2 v u hd2 H2 k r2 d1 d2 ⟨z, i, c, e1, e2, e3, e4, q⟩ => ⟨z, i, c, by subst e1; exact d1.str r2.bs, by subst e2; exact d2.int r2.bs, e3, e4, q _ _ _ k r2 (.str _)⟩
/-- texts joined by + -/
def fCatS : PyData → PyData → (PyData → Prop) → Prop := fun x y Q => ∃ i j, x = .str i ∧ y = .str j ∧ i.length + j.length ≤ sizeLine ∧ Q (.str (i ++ j))
instance {ta tb : TE} {wa wb : TRd} [pa : PuR K E ta wa] [pb : PuR K E tb wb] : PuE K E (tOp rCatStr ta tb) (dOp fCatS wa wb) where
  mono h := pa.mono fun _ _ _ => pb.mono fun _ _ _ ⟨i, j, e1, e2, e3, q⟩ => ⟨i, j, e1, e2, e3, h _ _ q⟩
  run hE r q := bin2 hE r q fun l x m y δ2 v u hd2 H2 k r2 d1 d2 ⟨i, j, e1, e2, e3, q⟩ => ⟨i, j, by subst e1; exact d1.str r2.bs, by subst e2; exact d2.str r2.bs, e3, q _ _ _ k r2 (.str _)⟩
/-! ### tests -/
def dTest (w : TRd) : TDt := fun X δ Q => w X δ fun _ x δ1 => ∃ b, x = .bool b ∧ Q b δ1
theorem test_run {t : TE} {w : TRd} [p : PuR K E t w] {F : Frm K} {hd : Addr → Prop} {σ : L2.St} {H : Hp} {δ : DS} {Q : Bool → Hp → Prop} (hE : F.E = E) (r : Rep K F hd σ H δ) (q : dTest w F.X δ (OutT K F hd σ H Q)) : t σ H fun x H' => ∃ k, x = .bl k ∧ Q k H' := by
  refine p.run hE r (p.mono (fun l x δ1 ⟨b, e, q⟩ => ?_) q)
  subst e
  exact fun v hd' H' k r' d => ⟨b, d.bool r'.bs, q _ _ k r'⟩
instance {t : TE} {w : TRd} [p : PuR K E t w] : PuT K E (tTest t) (dTest w) where
  mono h := p.mono fun _ _ _ ⟨b, e, q⟩ => ⟨b, e, h _ _ q⟩
  run hE r q := test_run hE r q
instance {t : TE} {w : TRd} [p : PuR K E t w] : PuT K E (tB t) (dTest w) where
  mono h := p.mono fun _ _ _ ⟨b, e, q⟩ => ⟨b, e, h _ _ q⟩
  run hE r q := test_run hE r q
def dNot (w : TDt) : TDt := fun X δ Q => w X δ fun b δ1 => Q (!b) δ1
instance {t : TT} {w : TDt} [p : PuT K E t w] : PuT K E (tNot t) (dNot w) where
  mono h := p.mono fun _ _ q => h _ _ q
  run hE r q := p.run hE r (p.mono (fun _ _ q => q) q)
theorem OutT.kp {F : Frm K} {hd hd1 : Addr → Prop} {σ : L2.St} {H H1 : Hp} {Q : Bool → Hp → Prop} {b : Bool} {δ : DS} (k : Kp F hd H hd1 H1) (q : OutT K F hd σ H Q b δ) : OutT K F hd1 σ H1 Q b δ := fun hd' H' k' r' => q hd' H' (k.trans k') r'
theorem Out.kp {F : Frm K} {hd hd1 : Addr → Prop} {σ : L2.St} {H H1 : Hp} {Q : VK} {d : PyData} {δ : DS} (k : Kp F hd H hd1 H1) (q : Out K F hd σ H Q d δ) : Out K F hd1 σ H1 Q d δ := fun v hd' H' k' r' => q v hd' H' (k.trans k') r'
theorem OutR.kp {F : Frm K} {hd hd1 : Addr → Prop} {σ : L2.St} {H H1 : Hp} {Q : VK} {l : Lv} {d : PyData} {δ : DS} (k : Kp F hd H hd1 H1) (q : OutR K F hd σ H Q l d δ) : OutR K F hd1 σ H1 Q l d δ := fun v hd' H' k' r' => q v hd' H' (k.trans k') r'
def dAnd (wa wb : TDt) : TDt := fun X δ Q => wa X δ fun b δ1 => if b = true then wb X δ1 Q else Q false δ1
instance {ta tb : TT} {wa wb : TDt} [pa : PuT K E ta wa] [pb : PuT K E tb wb] : PuT K E (tAnd ta tb) (dAnd wa wb) where
  mono h := pa.mono fun b _ q => by
    cases b with
    | true => exact pb.mono h q
    | false => exact h _ _ q
  run {F hd σ H δ Q} hE r q := pa.run hE r (pa.mono (fun b δ1 q => fun hd1 H1 k1 r1 => by
    cases b with
    | true => rw [if_pos rfl] at q ⊢; exact pb.run hE r1 (pb.mono (fun _ _ q => q.kp k1) q)
    | false => rw [if_neg (by decide)] at q ⊢; exact q _ _ k1 r1) q)
def dOr (wa wb : TDt) : TDt := fun X δ Q => wa X δ fun b δ1 => if b = true then Q true δ1 else wb X δ1 Q
instance {ta tb : TT} {wa wb : TDt} [pa : PuT K E ta wa] [pb : PuT K E tb wb] : PuT K E (tOr ta tb) (dOr wa wb) where
  mono h := pa.mono fun b _ q => by
    cases b with
    | true => exact h _ _ q
    | false => exact pb.mono h q
  run {F hd σ H δ Q} hE r q := pa.run hE r (pa.mono (fun b δ1 q => fun hd1 H1 k1 r1 => by
    cases b with
    | true => rw [if_pos rfl] at q ⊢; exact q _ _ k1 r1
    | false => rw [if_neg (by decide)] at q ⊢; exact pb.run hE r1 (pb.mono (fun _ _ q => q.kp k1) q)) q)
def dYes : TDt := fun _ δ Q => Q true δ
instance : PuT K E tYes dYes where
  mono h := h _ _
  run _ r q := q _ _ .refl r
/-- whether it's true: truths, numbers, texts, lists, tuples -/
def tru : PyData → Option Bool
  | .bool b => some b | .int i => some (!decide (i = 0)) | .list ds => some (!ds.isEmpty) | .tuple ds => some (!ds.isEmpty) | .none => some false | _ => none
/-! ### values by tests -/
def dIfE (wc : TDt) (wa wb : TD) : TD := fun X δ Q => wc X δ fun b δ1 => if b = true then wa X δ1 Q else wb X δ1 Q
instance {tc : TT} {ta tb : TE} {wc : TDt} {wa wb : TD} [pc : PuT K E tc wc] [pa : PuE K E ta wa] [pb : PuE K E tb wb] : PuE K E (tIf tc ta tb) (dIfE wc wa wb) where
  mono h := pc.mono fun b _ q => by
    cases b with
    | true => exact pa.mono h q
    | false => exact pb.mono h q
  run {F hd σ H δ Q} hE r q := pc.run hE r (pc.mono (fun b δ1 q => fun hd1 H1 k1 r1 => by
    cases b with
    | true => rw [if_pos rfl] at q ⊢; exact pa.run hE r1 (pa.mono (fun _ _ q => q.kp k1) q)
    | false => rw [if_neg (by decide)] at q ⊢; exact pb.run hE r1 (pb.mono (fun _ _ q => q.kp k1) q)) q)
def dAndV (wa : TRd) (wb : TD) : TD := fun X δ Q => wa X δ fun _ x δ1 => ∃ c, x = .bool c ∧ if c = true then wb X δ1 Q else Q (.bool false) δ1
instance {ta tb : TE} {wa : TRd} {wb : TD} [pa : PuR K E ta wa] [pb : PuE K E tb wb] : PuE K E (tAndV ta tb) (dAndV wa wb) where
  mono h := pa.mono fun _ _ _ ⟨c, e, q⟩ => ⟨c, e, by
    cases c with
    | true => exact pb.mono h q
    | false => exact h _ _ q⟩
  run {F hd σ H δ Q} hE r q := pa.run hE r (pa.mono (fun l x δ1 ⟨c, e, q⟩ => fun v hd1 H1 k1 r1 d => by
    subst e
    refine ⟨c, d.bool r1.bs, ?_⟩
    cases c with
    | true => rw [if_pos rfl] at q ⊢; exact pb.run hE r1 (pb.mono (fun _ _ q => q.kp k1) q)
    | false => rw [if_neg (by decide)] at q ⊢; exact q _ _ _ k1 r1 (.bl _)) q)
def dOrV (wa : TRd) (wb : TD) : TD := fun X δ Q => wa X δ fun _ x δ1 => ∃ c, x = .bool c ∧ if c = true then Q (.bool true) δ1 else wb X δ1 Q
instance {ta tb : TE} {wa : TRd} {wb : TD} [pa : PuR K E ta wa] [pb : PuE K E tb wb] : PuE K E (tOrV ta tb) (dOrV wa wb) where
  mono h := pa.mono fun _ _ _ ⟨c, e, q⟩ => ⟨c, e, by
    cases c with
    | true => exact h _ _ q
    | false => exact pb.mono h q⟩
  run {F hd σ H δ Q} hE r q := pa.run hE r (pa.mono (fun l x δ1 ⟨c, e, q⟩ => fun v hd1 H1 k1 r1 d => by
    subst e
    refine ⟨c, d.bool r1.bs, ?_⟩
    cases c with
    | true => rw [if_pos rfl] at q ⊢; exact q _ _ _ k1 r1 (.bl _)
    | false => rw [if_neg (by decide)] at q ⊢; exact pb.run hE r1 (pb.mono (fun _ _ q => q.kp k1) q)) q)
def dNotV (wa : TRd) : TD := fun X δ Q => wa X δ fun _ x δ1 => ∃ c, x = .bool c ∧ Q (.bool (!c)) δ1
instance {ta : TE} {wa : TRd} [pa : PuR K E ta wa] : PuE K E (tNotV ta) (dNotV wa) where
  mono h := pa.mono fun _ _ _ ⟨c, e, q⟩ => ⟨c, e, h _ _ q⟩
  run {F hd σ H δ Q} hE r q := pa.run hE r (pa.mono (fun l x δ1 ⟨c, e, q⟩ => fun v hd1 H1 k1 r1 d => ⟨c, by subst e; exact d.bool r1.bs, q _ _ _ k1 r1 (.bl _)⟩) q)
def dNeg (g : Int → V) (wa : TRd) : TD := fun X δ Q => wa X δ fun _ x δ1 => ∃ i, x = .int i ∧ ∃ d, dV (g i) = some d ∧ Q d δ1
instance {g : Int → V} {ta : TE} {wa : TRd} [pa : PuR K E ta wa] : PuE K E (tUn (rU g) ta) (dNeg g wa) where
  mono h := pa.mono fun _ _ _ ⟨c, e, d, e2, q⟩ => ⟨c, e, d, e2, h _ _ q⟩
  run {F hd σ H δ Q} hE r q := pa.run hE r (pa.mono (fun l x δ1 ⟨c, e, d, e2, q⟩ => fun v hd1 H1 k1 r1 dd => ⟨c, by subst e; exact dd.int r1.bs, q _ _ _ k1 r1 (dp_dV e2)⟩) q)
end
end Rp

/-! Argument lists, displays, calls, what is built in. -/
namespace Rp
open PySem PySem.Spec PyProof.Rows L2
section
variable {K : PySem.W.Frag} {E : XK}
/-! ### things in a row -/
def OutA (K : PySem.W.Frag) (F : Frm K) (hd : Addr → Prop) (σ : L2.St) (H : Hp) (Q : List V → Hp → Prop) (ds : List PyData) (δ' : DS) : Prop := ∀ vs hd' H', Kp F hd H hd' H' → Rep K F hd' σ H' δ' → DzAll K (vis F hd' H') vs ds → Q vs H'
class PuV (K : PySem.W.Frag) (E : XK) (t : TA) (w : outParam TDa) : Prop where
  mono : ∀ {X : XP} {δ : DS} {Q Q' : List PyData → DS → Prop}, (∀ d δ', Q d δ' → Q' d δ') → w X δ Q → w X δ Q'
  run : ∀ {F : Frm K} {hd : Addr → Prop} {σ : L2.St} {H : Hp} {δ : DS} {Q : List V → Hp → Prop}, F.E = E → Rep K F hd σ H δ → w F.X δ (OutA K F hd σ H Q) → t σ H Q
def dNil : TDa := fun _ δ Q => Q [] δ
def dCons (wa : TD) (wb : TDa) : TDa := fun X δ Q => wa X δ fun x δ1 => wb X δ1 fun xs δ2 => Q (x :: xs) δ2
instance : PuV K E tNil dNil where
  mono h := h _ _
  run _ r q := q _ _ _ .refl r .nil
instance {ta : TE} {tb : TA} {wa : TD} {wb : TDa} [pa : PuE K E ta wa] [pb : PuV K E tb wb] : PuV K E (tCons ta tb) (dCons wa wb) where
  mono h := pa.mono fun _ _ => pb.mono fun _ _ q => h _ _ q
  run hE r q := pa.run hE r (pa.mono (fun x δ1 q v hd1 H1 k1 r1 d1 => pb.run hE r1 (pb.mono (fun xs δ2 q vs hd2 H2 k2 r2 d2 => q _ _ _ (k1.trans k2) r2 (.cons (Dz.same (vis_go r1.bs k2.go) d1) d2)) q)) q)
theorem dpAll_app {H : Hp} : ∀ {xs ys : List V} {ds es : List PyData}, DzAll K H xs ds → DzAll K H ys es → DzAll K H (xs ++ ys) (ds ++ es)
  | _, _, _, _, .nil, h => h
  | _, _, _, _, .cons a t, h => .cons a (dpAll_app t h)
theorem dpAll_up {F : Frm K} {hd : Addr → Prop} {H : Hp} {l : Lv} : ∀ {vs : List V} {ds : List PyData}, DzAll K (lvH F hd H l) vs ds → (l.ch = .V ∨ ∀ d ∈ ds, sc d = true) → DzAll K (vis F hd H) vs ds
  | _, _, .nil, _ => .nil
  | _, _, .cons a t, c => .cons (up_ch a (c.imp id fun h => h _ List.mem_cons_self)) (dpAll_up t (c.imp id fun h d hd => h d (List.mem_cons_of_mem _ hd)))
/-- the things of it may be told on -/
def okU (l : Lv) (ds : List PyData) : Prop := l.ch = .V ∨ ∀ d ∈ ds, sc d = true
theorem DzAll.upU {F : Frm K} {hd : Addr → Prop} {H : Hp} {l : Lv} {vs : List V} {ds : List PyData} (h : DzAll K (lvH F hd H l) vs ds) (c : okU l ds) : DzAll K (vis F hd H) vs ds := dpAll_up h c
def dStar (wa : TRd) (wb : TDa) : TDa := fun X δ Q => wa X δ fun l x δ1 => ∃ ds, Items x ds ∧ okU l ds ∧ wb X δ1 fun xs δ2 => Q (ds ++ xs) δ2
instance {ta : TE} {tb : TA} {wa : TRd} {wb : TDa} [pa : PuR K E ta wa] [pb : PuV K E tb wb] : PuV K E (StX.tStar K ta tb) (dStar wa wb) where
  mono h := pa.mono fun _ _ _ ⟨ds, i, c, q⟩ => ⟨ds, i, c, pb.mono (fun _ _ q => h _ _ q) q⟩
  run hE r q := pa.run hE r (pa.mono (fun l x δ1 ⟨ds, i, c, q⟩ v hd1 H1 k1 r1 d1 => by
    obtain ⟨a, vs, rfl, hs, ha⟩ := d1.seq r1.bs i
    have ha := DzAll.upU ha c
    exact ⟨a, vs, rfl, (hs.imp (fun h => nt_in.seq h.2) (fun h => Same.seqT nt_in h.2)).symm, pb.run hE r1 (pb.mono (fun xs δ2 q us hd2 H2 k2 r2 d2 => q _ _ _ (k1.trans k2) r2 (dpAll_app (DzAll.same (vis_go r1.bs k2.go) ha) d2)) q)⟩) q)
/-- a new thing -/
theorem Rep.new {F : Frm K} {hd : Addr → Prop} {σ : L2.St} {H : Hp} {δ : DS} (r : Rep K F hd σ H δ) {p : Addr} (o : HO) (h : H p = none) : Kp F hd H hd (upd H p o) ∧ Rep K F hd σ (upd H p o) δ ∧ Same (vis F hd H) (vis F hd (upd H p o)) :=
  ⟨.of_same (Same.new h), r.same (Same.new h), vis_same r.bs (Same.new h)⟩
theorem newLst {F : Frm K} {hd : Addr → Prop} {σ : L2.St} {H : Hp} {δ : DS} {p : Addr} {vs : List V} {ds : List PyData} {Q : VK} (r : Rep K F hd σ H δ) (h : H p = none) (d : DzAll K (vis F hd H) vs ds) (q : Out K F hd σ H Q (.list ds) δ) : Q (.ref p) (upd H p (.lst vs)) := by
  obtain ⟨k, r', s⟩ := r.new (.lst vs) h
  exact q _ _ _ k r' (.lst (.inl (.inl (r.seen h))) (DzAll.same s d))
theorem newTup {F : Frm K} {hd : Addr → Prop} {σ : L2.St} {H : Hp} {δ : DS} {p : Addr} {ob : Obj} {vs : List V} {ds : List PyData} {Q : VK} (r : Rep K F hd σ H δ) (h : H p = none) (nd : ob.dict = none) (d : DzAll K (vis F hd H) vs ds) (q : Out K F hd σ H Q (.tuple ds) δ) : Q (.ref p) (upd H p (.frz ob (.tup vs))) := by
  obtain ⟨k, r', s⟩ := r.new (.frz ob (.tup vs)) h
  exact q _ _ _ k r' (.tup (.inl (.inr ⟨ob, r.seen h⟩)) ⟨ob, vs, r.seen h, nd⟩ (DzAll.same s d))
def dLst (w : TDa) : TD := fun X δ Q => w X δ fun ds δ1 => ds.length ≤ sizeLine ∧ Q (.list ds) δ1
def dTup (w : TDa) : TD := fun X δ Q => w X δ fun ds δ1 => ds.length ≤ sizeLine ∧ Q (.tuple ds) δ1
instance {t : TA} {w : TDa} [p : PuV K E t w] : PuE K E (tLst t) (dLst w) where
  mono h := p.mono fun _ _ q => ⟨q.1, h _ _ q.2⟩
  run hE r q := p.run hE r (p.mono (fun ds δ1 q vs hd1 H1 k1 r1 d1 => ⟨by rw [DzAll.len d1]; exact q.1, fun p np => newLst r1 np d1 (q.2.kp k1)⟩) q)
instance {t : TA} {w : TDa} [p : PuV K E t w] : PuE K E (tTupZ t) (dTup w) where
  mono h := p.mono fun _ _ q => ⟨q.1, h _ _ q.2⟩
  run hE r q := p.run hE r (p.mono (fun ds δ1 q vs hd1 H1 k1 r1 d1 => ⟨by rw [DzAll.len d1]; exact q.1, fun p ob np nd => newTup r1 np nd d1 (q.2.kp k1)⟩) q)
/-! ### calls of own defs -/
def ArgsV (K : PySem.W.Frag) (Hv Hn : Hp) : List Bool → List V → List PyData → Prop
  | [], [], [] => True
  | b :: bs, v :: vs, d :: ds => Dz K (if b then Hv else Hn) v d ∧ ArgsV K Hv Hn bs vs ds
  | _, _, _ => False
theorem ArgsV.same {Hv Hn Hv' Hn' : Hp} (s1 : Same Hv Hv') (s2 : Same Hn Hn') : ∀ {al : List Bool} {vs : List V} {ds : List PyData}, ArgsV K Hv Hn al vs ds → ArgsV K Hv' Hn' al vs ds
  | [], [], [], _ => trivial
  | b :: bs, v :: vs, d :: ds, h => ⟨(by cases b with | false => exact Dz.same s2 h.1 | true => exact Dz.same s1 h.1), ArgsV.same s1 s2 h.2⟩
  | [], _ :: _, _, h => by simp [ArgsV] at h
  | [], [], _ :: _, h => by simp [ArgsV] at h
  | _ :: _, [], _, h => by simp [ArgsV] at h
  | _ :: _, _ :: _, [], h => by simp [ArgsV] at h
theorem ArgsV.len {Hv Hn : Hp} : ∀ {al : List Bool} {vs : List V} {ds : List PyData}, ArgsV K Hv Hn al vs ds → vs.length = al.length ∧ ds.length = al.length
  | [], [], [], _ => ⟨rfl, rfl⟩
  | b :: bs, v :: vs, d :: ds, h => by have := ArgsV.len h.2; simp [this.1, this.2]
  | [], _ :: _, _, h => by simp [ArgsV] at h
  | [], [], _ :: _, h => by simp [ArgsV] at h
  | _ :: _, [], _, h => by simp [ArgsV] at h
  | _ :: _, _ :: _, [], h => by simp [ArgsV] at h
def OutB (K : PySem.W.Frag) (F : Frm K) (hd : Addr → Prop) (σ : L2.St) (H : Hp) (al : List Bool) (Q : List V → Hp → Prop) (ds : List PyData) (δ' : DS) : Prop := ∀ vs hd' H', Kp F hd H hd' H' → Rep K F hd' σ H' δ' → ArgsV K (vis F hd' H') (ntH F H') al vs ds → Q vs H'
class PuA (K : PySem.W.Frag) (E : XK) (al : List Bool) (t : TA) (w : outParam TDa) : Prop where
  mono : ∀ {X : XP} {δ : DS} {Q Q' : List PyData → DS → Prop}, (∀ d δ', Q d δ' → Q' d δ') → w X δ Q → w X δ Q'
  run : ∀ {F : Frm K} {hd : Addr → Prop} {σ : L2.St} {H : Hp} {δ : DS} {Q : List V → Hp → Prop}, F.E = E → Rep K F hd σ H δ → w F.X δ (OutB K F hd σ H al Q) → t σ H Q
instance : PuA K E [] tNil dNil where
  mono h := h _ _
  run _ r q := q _ _ _ .refl r trivial
instance {al : List Bool} {ta : TE} {tb : TA} {wa : TD} {wb : TDa} [pa : PuE K E ta wa] [pb : PuA K E al tb wb] : PuA K E (true :: al) (tCons ta tb) (dCons wa wb) where
  mono h := pa.mono fun _ _ => pb.mono fun _ _ q => h _ _ q
  run hE r q := pa.run hE r (pa.mono (fun x δ1 q v hd1 H1 k1 r1 d1 => pb.run hE r1 (pb.mono (fun xs δ2 q vs hd2 H2 k2 r2 d2 => q _ _ _ (k1.trans k2) r2 ⟨Dz.same (vis_go r1.bs k2.go) d1, d2⟩) q)) q)
def dConsR (wa : TRd) (wb : TDa) : TDa := fun X δ Q => wa X δ fun l x δ1 => notP l x = true ∧ wb X δ1 fun xs δ2 => Q (x :: xs) δ2
instance {al : List Bool} {ta : TE} {tb : TA} {wa : TRd} {wb : TDa} [pa : PuR K E ta wa] [pb : PuA K E al tb wb] : PuA K E (false :: al) (tCons ta tb) (dConsR wa wb) where
  mono h := pa.mono fun _ _ _ ⟨n, q⟩ => ⟨n, pb.mono (fun _ _ q => h _ _ q) q⟩
  run hE r q := pa.run hE r (pa.mono (fun l x δ1 ⟨n, q⟩ v hd1 H1 k1 r1 d1 => pb.run hE r1 (pb.mono (fun xs δ2 q vs hd2 H2 k2 r2 d2 => q _ _ _ (k1.trans k2) r2 ⟨Dz.same (nt_kp k2) (d1.ns r1.bs n), d2⟩) q)) q)
/-- what a def promises: by a ghost, what is handed in; what is told; what is refused -/
structure WF where
  G : Type
  pre : G → List PyData → Nat → Prop
  post : G → PyData → Nat → Prop
  err : G → Addr → PyData → Prop := fun _ _ _ => False
def WF.wp (s : WF) (ds : List PyData) (n : Nat) (Q : PyData → Nat → Prop) (X : Addr → PyData → Prop) : Prop := ∃ g, s.pre g ds n ∧ (∀ d n', s.post g d n' → Q d n') ∧ ∀ C d, s.err g C d → X C d
theorem WF.mono {s : WF} {ds : List PyData} {n : Nat} {Q Q' : PyData → Nat → Prop} {X X' : Addr → PyData → Prop} (h : ∀ d n, Q d n → Q' d n) (hx : ∀ C d, X C d → X' C d) : s.wp ds n Q X → s.wp ds n Q' X' :=
  fun ⟨g, a, b, c⟩ => ⟨g, a, fun d n z => h d n (b d n z), fun C d z => hx C d (c C d z)⟩
theorem vis_over {F : Frm K} {hd : Addr → Prop} {H : Hp} : Same (vis F hd H) (over F.V0 F.H0 H) := fun b o h => by
  obtain ⟨c, h | h⟩ := vis_some h
  · unfold over; rw [if_pos (by rw [h.1]; rfl)]; exact h.2
  · unfold over; rw [if_neg (by rw [h.1]; simp)]; exact h.2
def spF (K : PySem.W.Frag) (al : List Bool) (s : WF) : Sp := fun vs H Q E => ∃ (V0 : Hp) (ds : List PyData), Same V0 H ∧ ArgsV K V0 H al vs ds ∧
  s.wp ds 0 (fun d _ => ∀ v H', Same H H' → Dz K (over V0 H H') v d → Q v H') (fun C d => ∀ (e : Addr) (v : V) (H' : Hp), H e = none → Same H H' → H' e = some (.xd [("what", v)]) → Dz K (over V0 H H') v d → E (.ref C) (some e) H')
def spT (K : PySem.W.Frag) (al : List Bool) (s : WF) : Sp := fun vs H Q _ => ∃ (t : Addr) (ws : List V) (V0 : Hp) (ds : List PyData) (n : Nat), vs = .ref t :: ws ∧ TapeAt H t n ∧ Same V0 H ∧ V0 t = none ∧ ArgsV K V0 (mask t H) al ws ds ∧
  s.wp ds n (fun d n' => ∀ v H', Ext t H H' → TapeAt H' t n' → Dz K (over V0 H H') v d → Q v H') (fun _ _ => False)
theorem over_vis {F : Frm K} {hd : Addr → Prop} {σ : L2.St} {H H' : Hp} {δ : DS} (r : Rep K F hd σ H δ) (k : ∀ b o, H b = some o → ¬ F.T b → H' b = some o) : Same (over (vis F hd H) H H') (vis F hd H') := fun b o h => by
  unfold over at h
  by_cases c : (H b).isSome = true
  · rw [if_pos c] at h
    have t := vis_not_t h
    obtain ⟨h1, h2 | h2⟩ := vis_some h
    · exact vis_old h1 h2.2
    · rw [vis_new h1 h2.1]; exact k b o h2.2 t
  · rw [if_neg c] at h
    have n : H b = none := by simpa using c
    obtain ⟨h1, h2, h3⟩ := r.fresh n
    rw [vis_new h1 h2]; exact h
/-- a def without the tape, which refuses nothing; which may refuse -/
def dCall0 (s : WF) (w : TDa) : TD := fun X δ Q => w X δ fun ds δ1 => s.wp ds 0 (fun d _ => Q d δ1) (fun _ _ => False)
def dCallX (s : WF) (w : TDa) : TD := fun X δ Q => w X δ fun ds δ1 => s.wp ds 0 (fun d _ => Q d δ1) X.ap
theorem call_run {al : List Bool} {s : WF} {F : Frm K} {hd hd1 : Addr → Prop} {σ : L2.St} {H H1 : Hp} {δ1 : DS} {Q : VK} {vs : List V} {ds : List PyData} {X : Addr → PyData → Prop} {E' : XK} (k1 : Kp F hd H hd1 H1) (r1 : Rep K F hd1 σ H1 δ1) (d1 : ArgsV K (vis F hd1 H1) (ntH F H1) al vs ds)
    (q : s.wp ds 0 (fun d _ => Out K F hd σ H Q d δ1) X) (hx : ∀ C d, X C d → ∀ (e : Addr) (v : V) (H' : Hp), H1 e = none → Same H1 H' → H' e = some (.xd [("what", v)]) → Dz K (over (vis F hd1 H1) H1 H') v d → E' (.ref C) (some e) H') : spF K al s vs H1 Q E' := by
  refine ⟨vis F hd1 H1, ds, ((vis_rd r1.bs).trans rd_nt).trans nt_in, ArgsV.same (fun _ _ e => e) nt_in d1, WF.mono (fun d _ q v H' sH dv => ?_) hx q⟩
  refine q v hd1 H' (k1.trans (.of_same sH)) (r1.same sH) (Dz.same (over_vis r1 fun b o h _ => sH b o h) dv)
instance {al : List Bool} {s : WF} {t : TA} {w : TDa} [p : PuA K E al t w] : PuE K E (tCall (spF K al s) [] E0 t) (dCall0 s w) where
  mono h := p.mono fun _ _ q => WF.mono (fun _ _ q => h _ _ q) (fun _ _ z => z) q
  run hE r q := p.run hE r (p.mono (fun ds δ1 q vs hd1 H1 k1 r1 d1 => by show spF K al s (vs ++ []) H1 _ _; rw [List.append_nil]; exact call_run k1 r1 d1 q fun _ _ z => z.elim) q)
instance (priority := 900) {al : List Bool} {s : WF} {t : TA} {w : TDa} [p : PuA K E al t w] : PuE K E (tCall (spF K al s) [] E t) (dCallX s w) where
  mono h := p.mono fun _ _ q => WF.mono (fun _ _ q => h _ _ q) (fun _ _ z => z) q
  run {F hd σ H δ Q} hE r q := p.run hE r (p.mono (fun ds δ1 q vs hd1 H1 k1 r1 d1 => by
    show spF K al s (vs ++ []) H1 _ _
    rw [List.append_nil]
    refine call_run k1 r1 d1 q fun C d z e v H' ne sH he dv => ?_
    rw [← hE]
    exact F.ex C d e v H' z (r1.fresh ne).2.1 (fun b o h t => sH b o (r1.bs.ev b o h t)) (fun b q z => ((r1.cat b (F.tbT b q z)).1 q z).ext sH) he (Dz.same (vis_over (hd := hd1)) (Dz.same (over_vis r1 fun b o h _ => sH b o h) dv))) q)
/-- a def with the tape -/
def dCallT (i : Nat) (s : WF) (w : TDa) : TD := fun X δ Q => δ.v[i]? = some .tape ∧ w X δ fun ds δ1 => s.wp ds δ1.n (fun d n' => Q d ⟨δ1.v, n'⟩) (fun _ _ => False)
instance {i : Nat} {al : List Bool} {s : WF} {t : TA} {w : TDa} {E' : XK} [p : PuA K E al t w] : PuE K E (tCall (spT K al s) [] E' (tCons (tVar i) t)) (dCallT i s w) where
  mono h := fun ⟨e, q⟩ => ⟨e, p.mono (fun _ _ q => WF.mono (fun _ _ q => h _ _ q) (fun _ _ z => z) q) q⟩
  run {F hd σ H δ Q} hE r := fun ⟨e, q⟩ => by
    obtain ⟨a, h1, h2⟩ := r.vars i _ e
    refine ⟨_, h1, p.run hE r (p.mono (fun ds δ1 q vs hd1 H1 k1 r1 d1 => ?_) q)⟩
    show spT K al s (.ref a :: vs ++ []) H1 _ _
    rw [List.append_nil]
    have tn : vis F hd1 H1 a = none := by
      cases e : vis F hd1 H1 a with
      | none => rfl
      | some o => exact absurd h2.1 (vis_not_t e)
    refine ⟨a, vs, vis F hd1 H1, ds, δ1.n, rfl, r1.tape a h2, ((vis_rd r1.bs).trans rd_nt).trans nt_in, tn, ArgsV.same (fun _ _ e => e) (fun b o e => ?_) d1, WF.mono (fun d n' q v H' sH tH dv => ?_) (fun _ _ z => z) q⟩
    · obtain ⟨t, e⟩ := nt_some e
      rw [mask_ne (fun z => t (by rw [z]; exact h2.1))]; exact e
    · have kp : ∀ b o, H1 b = some o → ¬ F.T b → H' b = some o := fun b o h t => sH b o (fun z => t (by rw [z]; exact h2.1)) h
      refine q v hd1 H' (k1.trans ⟨kp, fun _ h => h⟩) (r1.kp kp fun b h => ?_) (Dz.same (over_vis r1 kp) dv)
      by_cases e : b = a
      · rw [e]; exact ⟨fun q z => absurd z (h2.2 q), fun _ => tH⟩
      · refine ⟨fun q z => TabS.lst ((r1.cat b h).1 q z) fun c o e2 no => sH c o (fun z => ?_) e2, fun z => absurd (F.one b a ⟨h, z⟩ h2) e⟩
        obtain ⟨x, y, u, hx, _⟩ := r1.tape a h2
        rw [z, hx] at e2
        exact no _ (Option.some.inj e2).symm
end
end Rp

/-! What is built in: len, list, tuple, all, any, isinstance, sorted, slices. -/
namespace Rp
open PySem PySem.Spec PyProof.Rows L2
section
variable {K : PySem.W.Frag} {E : XK}
def dB1 (f : Lv → PyData → (PyData → Prop) → Prop) (wa : TRd) : TD := fun X δ Q => wa X δ fun l x δ1 => f l x fun d => Q d δ1
theorem un1 {t : TE} {w : TRd} [p : PuR K E t w] {F : Frm K} {hd : Addr → Prop} {σ : L2.St} {H : Hp} {δ : DS} {W : Lv → PyData → DS → Prop} {R : V → Hp → Prop} (hE : F.E = E) (r : Rep K F hd σ H δ) (h : w F.X δ W)
    (f : ∀ l x δ1 v hd1 H1, Kp F hd H hd1 H1 → Rep K F hd1 σ H1 δ1 → RV K F hd1 H1 l v x → W l x δ1 → R v H1) : t σ H R :=
  p.run hE r (p.mono (fun l x δ1 q v hd1 H1 k1 r1 d1 => f l x δ1 v hd1 H1 k1 r1 d1 q) h)
/-! ### len -/
def fLen : Lv → PyData → (PyData → Prop) → Prop := fun _ x Q => ∃ ds, Items x ds ∧ Q (.int (ds.length : Nat))
instance {t : TE} {w : TRd} [p : PuR K E t w] : PuE K E (tCB (rLenQ K) (tCons t tNil)) (dB1 fLen w) where
  mono h := p.mono fun _ _ _ ⟨ds, i, q⟩ => ⟨ds, i, h _ _ q⟩
  run hE r q := un1 (t := t) hE r q fun l x δ1 v hd1 H1 k1 r1 d1 ⟨ds, i, q⟩ => by
    obtain ⟨a, vs, rfl, hs, ha⟩ := d1.seq r1.bs i
    refine ⟨a, vs, rfl, hs.imp (fun h => nt_in.seq h.2) (fun h => Same.seqT nt_in h.2), ?_⟩
    rw [DzAll.len ha]; exact q _ _ _ k1 r1 (.int _)
def fLenA : Lv → PyData → (PyData → Prop) → Prop := fun _ x Q => (∃ ds, Items x ds ∧ Q (.int (ds.length : Nat))) ∨ ∃ z : Str, x = .str z ∧ z.length ≤ sizeLine ∧ Q (.int (z.length : Nat))
instance {t : TE} {w : TRd} [p : PuR K E t w] : PuE K E (tCB (rLenA K) (tCons t tNil)) (dB1 fLenA w) where
  mono h := p.mono fun _ _ _ q => q.imp (fun ⟨ds, i, q⟩ => ⟨ds, i, h _ _ q⟩) (fun ⟨z, e, f, q⟩ => ⟨z, e, f, h _ _ q⟩)
  run hE r q := un1 (t := t) hE r q fun l x δ1 v hd1 H1 k1 r1 d1 q => by
    rcases q with ⟨ds, i, q⟩ | ⟨z, e, f, q⟩
    · obtain ⟨a, vs, rfl, hs, ha⟩ := d1.seq r1.bs i
      refine ⟨_, vs.length, rfl, hs.imp (fun h => ⟨vs, nt_in.seq h.2, rfl⟩) (fun h => ⟨vs, Same.seqT nt_in h.2, rfl⟩), ?_⟩
      rw [DzAll.len ha]; exact q _ _ _ k1 r1 (.int _)
    · subst e
      have := d1.str r1.bs
      subst this
      exact ⟨_, z.length, rfl, ⟨f, rfl⟩, q _ _ _ k1 r1 (.int _)⟩
def fLenT : Lv → PyData → (PyData → Prop) → Prop := fun _ x Q => ∃ z : Str, x = .str z ∧ z.length ≤ sizeLine ∧ Q (.int (z.length : Nat))
instance {t : TE} {w : TRd} [p : PuR K E t w] : PuE K E (tCB rLenT (tCons t tNil)) (dB1 fLenT w) where
  mono h := p.mono fun _ _ _ ⟨z, e, f, q⟩ => ⟨z, e, f, h _ _ q⟩
  run hE r q := un1 (t := t) hE r q fun l x δ1 v hd1 H1 k1 r1 d1 ⟨z, e, f, q⟩ => by
    subst e
    have := d1.str r1.bs
    subst this
    exact ⟨z, rfl, f, q _ _ _ k1 r1 (.int _)⟩
/-! ### list, tuple -/
def fList : Lv → PyData → (PyData → Prop) → Prop := fun l x Q => ∃ ds, Items x ds ∧ okU l ds ∧ Q (.list ds)
instance {t : TE} {w : TRd} [p : PuR K E t w] : PuE K E (tCB (rListOf K) (tCons t tNil)) (dB1 fList w) where
  mono h := p.mono fun _ _ _ ⟨ds, i, c, q⟩ => ⟨ds, i, c, h _ _ q⟩
  run hE r q := un1 (t := t) hE r q fun l x δ1 v hd1 H1 k1 r1 d1 ⟨ds, i, c, q⟩ => by
    obtain ⟨a, vs, rfl, hs, ha⟩ := d1.seq r1.bs i
    exact ⟨a, vs, rfl, hs.imp (fun h => nt_in.seq h.2) (fun h => Same.seqT nt_in h.2), fun p np => newLst r1 np (DzAll.upU ha c) (q.kp k1)⟩
/-- tuple(x): a tuple is told itself, so it must be one that may be told on -/
def fTuple : Lv → PyData → (PyData → Prop) → Prop := fun l x Q => ∃ ds, Items x ds ∧ okU l ds ∧ (x = .list ds ∨ l = .V) ∧ Q (.tuple ds)
instance {t : TE} {w : TRd} [p : PuR K E t w] : PuE K E (tCB (rTupZ K) (tCons t tNil)) (dB1 fTuple w) where
  mono h := p.mono fun _ _ _ ⟨ds, i, c, c2, q⟩ => ⟨ds, i, c, c2, h _ _ q⟩
  run hE r q := un1 (t := t) hE r q fun l x δ1 v hd1 H1 k1 r1 d1 ⟨ds, i, c, c2, q⟩ => by
    obtain ⟨a, vs, rfl, hs, ha⟩ := d1.seq r1.bs i
    refine ⟨a, vs, rfl, ?_⟩
    rcases hs with hs | hs
    · exact .inl ⟨nt_in.seq hs.2, fun p ob np nd => newTup r1 np nd (DzAll.upU ha c) (q.kp k1)⟩
    · refine .inr ⟨Same.seqT nt_in hs.2, ?_⟩
      have el : l = .V := c2.elim (fun z => by rw [hs.1] at z; cases z) id
      subst el
      have e := hs.1
      subst e
      exact q _ _ _ k1 r1 d1
/-! ### all, any -/
theorem bools_of {H : Hp} : ∀ {vs : List V} {bs : List Bool}, DzAll K H vs (bs.map .bool) → vs = bs.map V.bl
  | _, [], h => by cases h; rfl
  | _, b :: bs, h => by
    cases h with
    | cons a t => cases a; rw [bools_of t]; rfl
def fAll : Lv → PyData → (PyData → Prop) → Prop := fun _ x Q => ∃ bs : List Bool, x = .list (bs.map .bool) ∧ Q (.bool (bs.all id))
def fAny : Lv → PyData → (PyData → Prop) → Prop := fun _ x Q => ∃ bs : List Bool, x = .list (bs.map .bool) ∧ Q (.bool (bs.any id))
instance {t : TE} {w : TRd} [p : PuR K E t w] : PuE K E (tCB (rAll K) (tCons t tNil)) (dB1 fAll w) where
  mono h := p.mono fun _ _ _ ⟨ds, i, q⟩ => ⟨ds, i, h _ _ q⟩
  run hE r q := un1 (t := t) hE r q fun l x δ1 v hd1 H1 k1 r1 d1 ⟨bs, e, q⟩ => by
    subst e
    obtain ⟨a, vs, rfl, hs, ha⟩ := d1.seq r1.bs (.inl rfl)
    have e := bools_of ha
    subst e
    rcases hs with hs | hs
    · exact ⟨a, bs, rfl, nt_in.seq hs.2, q _ _ _ k1 r1 (.bl _)⟩
    · cases hs.1
instance {t : TE} {w : TRd} [p : PuR K E t w] : PuE K E (tCB (rAny K) (tCons t tNil)) (dB1 fAny w) where
  mono h := p.mono fun _ _ _ ⟨ds, i, q⟩ => ⟨ds, i, h _ _ q⟩
  run hE r q := un1 (t := t) hE r q fun l x δ1 v hd1 H1 k1 r1 d1 ⟨bs, e, q⟩ => by
    subst e
    obtain ⟨a, vs, rfl, hs, ha⟩ := d1.seq r1.bs (.inl rfl)
    have e := bools_of ha
    subst e
    rcases hs with hs | hs
    · exact ⟨a, bs, rfl, nt_in.seq hs.2, q _ _ _ k1 r1 (.bl _)⟩
    · cases hs.1
/-! ### isinstance -/
def fIsi (c : String) : Lv → PyData → (PyData → Prop) → Prop := fun _ x Q => ∃ b, kitB (tyN x) c = some b ∧ Q (.bool b)
instance {c : String} {t : TE} {w : TRd} [p : PuR K E t w] : PuE K E (tCB (rIsi K) (tCons t (tCons (tC (.ty c)) tNil))) (dB1 (fIsi c) w) where
  mono h := p.mono fun _ _ _ ⟨b, e, q⟩ => ⟨b, e, h _ _ q⟩
  run hE r q := un1 (t := t) hE r q fun l x δ1 v hd1 H1 k1 r1 d1 ⟨b, e, q⟩ => isi1 (Dp.same nt_in (d1.nt r1.bs)) e (q _ _ _ k1 r1 (.bl _))
def fIsi2 (c1 c2 : String) : Lv → PyData → (PyData → Prop) → Prop := fun _ x Q => ∃ b1 b2, kitB (tyN x) c1 = some b1 ∧ kitB (tyN x) c2 = some b2 ∧ Q (.bool (b1 || b2))
instance {c1 c2 : String} {t : TE} {w : TRd} [p : PuR K E t w] : PuE K E (tCB (rIsiT K) (tCons t (tCons (tTup (tCons (tC (.ty c1)) (tCons (tC (.ty c2)) tNil))) tNil))) (dB1 (fIsi2 c1 c2) w) where
  mono h := p.mono fun _ _ _ ⟨b, b2, e, e2, q⟩ => ⟨b, b2, e, e2, h _ _ q⟩
  run hE r q := un1 (t := t) hE r q fun l x δ1 v hd1 H1 k1 r1 d1 ⟨b, b2, e, e2, q⟩ => ⟨(by rw [sizeLine_eq]; simp), fun p np => by
    obtain ⟨k2, r2, _⟩ := r1.new (.tup [V.ty c1, V.ty c2]) np
    exact isi2 upd_same (Dp.same (nt_in.trans (Same.new np)) (d1.nt r1.bs)) e e2 (q _ _ _ (k1.trans k2) r2 (.bl _))⟩
/-! ### numbers -/
def fInt1 : Lv → PyData → (PyData → Prop) → Prop := fun _ x Q => (∃ i, x = .int i ∧ Q (.int i)) ∨ ∃ k, x = .bool k ∧ Q (.int (if k then 1 else 0))
instance {t : TE} {w : TRd} [p : PuR K E t w] : PuE K E (tCB rInt1 (tCons t tNil)) (dB1 fInt1 w) where
  mono h := p.mono fun _ _ _ q => q.imp (fun ⟨i, e, q⟩ => ⟨i, e, h _ _ q⟩) (fun ⟨i, e, q⟩ => ⟨i, e, h _ _ q⟩)
  run hE r q := un1 (t := t) hE r q fun l x δ1 v hd1 H1 k1 r1 d1 q => by
    rcases q with ⟨i, e, q⟩ | ⟨i, e, q⟩
    · subst e; exact .inl ⟨i, by rw [d1.int r1.bs], q _ _ _ k1 r1 (.int _)⟩
    · subst e; exact .inr ⟨i, by rw [d1.bool r1.bs], q _ _ _ k1 r1 (.int _)⟩
def fMax2 : PyData → PyData → (PyData → Prop) → Prop := fun x y Q => ∃ i j, x = .int i ∧ y = .int j ∧ Q (.int (if j > i then j else i))
def fMin2 : PyData → PyData → (PyData → Prop) → Prop := fun x y Q => ∃ i j, x = .int i ∧ y = .int j ∧ Q (.int (if j < i then j else i))
instance {ta tb : TE} {wa wb : TRd} [pa : PuR K E ta wa] [pb : PuR K E tb wb] : PuE K E (tCB rMax2i (tCons ta (tCons tb tNil))) (dOp fMax2 wa wb) where
  mono h := pa.mono fun _ _ _ => pb.mono fun _ _ _ ⟨i, j, e1, e2, q⟩ => ⟨i, j, e1, e2, h _ _ q⟩
  run hE r q := bin2 hE r q fun l x m y δ2 v u hd2 H2 k r2 d1 d2 ⟨i, j, e1, e2, q⟩ => ⟨i, j, by subst e1; subst e2; rw [d1.int r2.bs, d2.int r2.bs], q _ _ _ k r2 (.int _)⟩
instance {ta tb : TE} {wa wb : TRd} [pa : PuR K E ta wa] [pb : PuR K E tb wb] : PuE K E (tCB rMin2i (tCons ta (tCons tb tNil))) (dOp fMin2 wa wb) where
  mono h := pa.mono fun _ _ _ => pb.mono fun _ _ _ ⟨i, j, e1, e2, q⟩ => ⟨i, j, e1, e2, h _ _ q⟩
  run hE r q := bin2 hE r q fun l x m y δ2 v u hd2 H2 k r2 d1 d2 ⟨i, j, e1, e2, q⟩ => ⟨i, j, by subst e1; subst e2; rw [d1.int r2.bs, d2.int r2.bs], q _ _ _ k r2 (.int _)⟩
def fSum : Lv → PyData → (PyData → Prop) → Prop := fun _ x Q => ∃ ns : List Int, x = .list (ns.map .int) ∧ Q (.int ns.sum)
theorem ints_of {H : Hp} : ∀ {vs : List V} {bs : List Int}, DzAll K H vs (bs.map .int) → vs = bs.map V.int
  | _, [], h => by cases h; rfl
  | _, b :: bs, h => by
    cases h with
    | cons a t => cases a; rw [ints_of t]; rfl
theorem strs_of {H : Hp} : ∀ {vs : List V} {bs : List Str}, DzAll K H vs (bs.map .str) → vs = bs.map V.str
  | _, [], h => by cases h; rfl
  | _, b :: bs, h => by
    cases h with
    | cons a t => cases a; rw [strs_of t]; rfl
instance {t : TE} {w : TRd} [p : PuR K E t w] : PuE K E (tCB (rSum K) (tCons t tNil)) (dB1 fSum w) where
  mono h := p.mono fun _ _ _ ⟨ds, i, q⟩ => ⟨ds, i, h _ _ q⟩
  run hE r q := un1 (t := t) hE r q fun l x δ1 v hd1 H1 k1 r1 d1 ⟨bs, e, q⟩ => by
    subst e
    obtain ⟨a, vs, rfl, hs, ha⟩ := d1.seq r1.bs (.inl rfl)
    have e := ints_of ha
    subst e
    rcases hs with hs | hs
    · exact ⟨a, bs, rfl, nt_in.seq hs.2, q _ _ _ k1 r1 (.int _)⟩
    · cases hs.1
/-! ### sorted -/
def fSortS : Lv → PyData → (PyData → Prop) → Prop := fun _ x Q => ∃ zs : List Str, x = .list (zs.map .str) ∧ zs.length < 64 ∧ ∀ ys : List Str, ys.Perm zs → sortedS ys = true → Q (.list (ys.map .str))
instance {t : TE} {w : TRd} [p : PuR K E t w] : PuE K E (tCB (rSortedS K) (tCons t tNil)) (dB1 fSortS w) where
  mono h := p.mono fun _ _ _ ⟨ds, i, c, q⟩ => ⟨ds, i, c, fun ys a b => h _ _ (q ys a b)⟩
  run hE r q := un1 (t := t) hE r q fun l x δ1 v hd1 H1 k1 r1 d1 ⟨zs, e, c, q⟩ => by
    subst e
    obtain ⟨a, vs, rfl, hs, ha⟩ := d1.seq r1.bs (.inl rfl)
    have e := strs_of ha
    subst e
    rcases hs with hs | hs
    · exact ⟨a, zs, rfl, nt_in.seq hs.2, c, fun ys p pm so np => newLst r1 np (dz_strs ys) ((q ys pm so).kp k1)⟩
    · cases hs.1
/-- sorted of data: as they rise -/
def fSortD : Lv → PyData → (PyData → Prop) → Prop := fun l x Q => ∃ ds : List PyData, x = .list ds ∧ okU l ds ∧ PySem.W.AllAlike ds ∧ (ds.length < 2 ∨ PySem.W.Sortable ds) ∧ (∀ d ∈ ds, d.depth ≤ 30) ∧ ∀ ps : List (V × PyData), ps.map (·.2) = ds → Q (.list ((srtD ps).map (·.2)))
theorem srtD_mem {ps : List (V × PyData)} {p : V × PyData} (h : p ∈ srtD ps) : p ∈ ps := (List.mergeSort_perm _ _).mem_iff.mp h
instance {t : TE} {w : TRd} [p : PuR K E t w] : PuE K E (tCB (rSortD K) (tCons t tNil)) (dB1 fSortD w) where
  mono h := p.mono fun _ _ _ ⟨ds, i, c, d, e, f, q⟩ => ⟨ds, i, c, d, e, f, fun ps z => h _ _ (q ps z)⟩
  run hE r q := un1 (t := t) hE r q fun l x δ1 v hd1 H1 k1 r1 d1 ⟨ds, i, c, c1, c2, c3, q⟩ => by
    subst i
    obtain ⟨a, vs, rfl, hs, ha⟩ := d1.seq r1.bs (.inl rfl)
    have hv := DzAll.upU ha c
    obtain ⟨z1, z2, z3⟩ := zip_dz hv
    have lz : (vs.zip ds).length = ds.length := by rw [← List.length_map (f := (·.2)), z2]
    rcases hs with hs | hs
    · refine ⟨a, vs.zip ds, rfl, by rw [z1]; exact nt_in.seq hs.2, fun p hp => (Dz.same (((vis_rd r1.bs).trans rd_nt).trans nt_in) (z3 p hp)).dp, by rw [z2]; exact c1, by rw [z2, lz]; exact c2, fun p hp => c3 _ (by rw [← z2]; exact List.mem_map.mpr ⟨p, hp, rfl⟩), fun p np => ?_⟩
      exact newLst r1 np (dz_zip fun p hp => z3 p (srtD_mem hp)) ((q _ z2).kp k1)
    · cases hs.1
/-! ### slices -/
def cutG {α : Type} (xs : List α) (lo hi : Option Int) : List α := (xs.drop (HT.sIx xs.length 0 lo)).take (HT.sIx xs.length xs.length hi - HT.sIx xs.length 0 lo)
theorem dp_drop {H : Hp} : ∀ (k : Nat) {vs : List V} {ds : List PyData}, DzAll K H vs ds → DzAll K H (vs.drop k) (ds.drop k)
  | 0, _, _, h => h
  | _ + 1, _, _, .nil => .nil
  | k + 1, _, _, .cons _ t => dp_drop k t
theorem dp_take {H : Hp} : ∀ (k : Nat) {vs : List V} {ds : List PyData}, DzAll K H vs ds → DzAll K H (vs.take k) (ds.take k)
  | 0, _, _, _ => .nil
  | _ + 1, _, _, .nil => .nil
  | k + 1, _, _, .cons a t => .cons a (dp_take k t)
theorem dp_cut {H : Hp} {vs : List V} {ds : List PyData} {lo hi : Option Int} (h : DzAll K H vs ds) : DzAll K H (cutV vs lo hi) (cutG ds lo hi) := by
  unfold cutV cutG
  rw [DzAll.len h]
  exact dp_take _ (dp_drop _ h)
theorem cutG_to {α : Type} (xs : List α) (j : Nat) : cutG xs none (some (j : Int)) = xs.take j := by
  unfold cutG
  rw [HT.sIx_none, HT.sIx_nat, List.drop_zero, Nat.sub_zero]
  by_cases h : j ≤ xs.length
  · rw [Nat.min_eq_left h]
  · rw [Nat.min_eq_right (by omega), List.take_length, List.take_of_length_le (by omega)]
abbrev TDo := XP → DS → (Option Int → DS → Prop) → Prop
def OutO (K : PySem.W.Frag) (F : Frm K) (hd : Addr → Prop) (σ : L2.St) (H : Hp) (Q : Option Int → Hp → Prop) (b : Option Int) (δ' : DS) : Prop := ∀ hd' H', Kp F hd H hd' H' → Rep K F hd' σ H' δ' → Q b H'
class PuO (K : PySem.W.Frag) (E : XK) (t : TO) (w : outParam TDo) : Prop where
  mono : ∀ {X : XP} {δ : DS} {Q Q' : Option Int → DS → Prop}, (∀ d δ', Q d δ' → Q' d δ') → w X δ Q → w X δ Q'
  run : ∀ {F : Frm K} {hd : Addr → Prop} {σ : L2.St} {H : Hp} {δ : DS} {Q : Option Int → Hp → Prop}, F.E = E → Rep K F hd σ H δ → w F.X δ (OutO K F hd σ H Q) → t σ H Q
def dNoPart : TDo := fun _ δ Q => Q none δ
def dPart (w : TRd) : TDo := fun X δ Q => w X δ fun _ x δ1 => ∃ i, x = .int i ∧ Q (some i) δ1
instance : PuO K E tNoPart dNoPart where
  mono h := h _ _
  run _ r q := q _ _ .refl r
instance {t : TE} {w : TRd} [p : PuR K E t w] : PuO K E (tPart t) (dPart w) where
  mono h := p.mono fun _ _ _ ⟨i, e, q⟩ => ⟨i, e, h _ _ q⟩
  run hE r q := un1 (t := t) hE r q fun l x δ1 v hd1 H1 k1 r1 d1 ⟨i, e, q⟩ => ⟨i, by subst e; exact d1.int r1.bs, q _ _ k1 r1⟩
def dSl (f : Lv → PyData → Option Int → Option Int → (PyData → Prop) → Prop) (wa : TRd) (wl wh : TDo) : TD := fun X δ Q => wa X δ fun l x δ1 => wl X δ1 fun lo δ2 => wh X δ2 fun hi δ3 => f l x lo hi fun d => Q d δ3
theorem sl3 {t : TE} {tl th : TO} {w : TRd} {wl wh : TDo} [p : PuR K E t w] [pl : PuO K E tl wl] [ph : PuO K E th wh] {F : Frm K} {hd : Addr → Prop} {σ : L2.St} {H : Hp} {δ : DS} {W : Lv → PyData → Option Int → Option Int → DS → Prop} {R : V → Option Int → Option Int → Hp → Prop} (hE : F.E = E) (r : Rep K F hd σ H δ)
    (h : w F.X δ fun l x δ1 => wl F.X δ1 fun lo δ2 => wh F.X δ2 fun hi δ3 => W l x lo hi δ3)
    (f : ∀ l x lo hi δ1 v hd1 H1, Kp F hd H hd1 H1 → Rep K F hd1 σ H1 δ1 → RV K F hd1 H1 l v x → W l x lo hi δ1 → R v lo hi H1) : t σ H fun v H1 => tl σ H1 fun lo H2 => th σ H2 fun hi H3 => R v lo hi H3 :=
  p.run hE r (p.mono (fun l x δ1 q v hd1 H1 k1 r1 d1 => pl.run hE r1 (pl.mono (fun lo δ2 q hd2 H2 k2 r2 => ph.run hE r2 (ph.mono (fun hi δ3 q hd3 H3 k3 r3 => f l x lo hi δ3 v hd3 H3 (k1.trans (k2.trans k3)) r3 ((d1.kp r1.bs k2).kp r2.bs k3) q) q)) q)) h)
def fSlL : Lv → PyData → Option Int → Option Int → (PyData → Prop) → Prop := fun l x lo hi Q => ∃ ds, x = .list ds ∧ okU l (cutG ds lo hi) ∧ Q (.list (cutG ds lo hi))
instance {t : TE} {tl th : TO} {w : TRd} {wl wh : TDo} [p : PuR K E t w] [pl : PuO K E tl wl] [ph : PuO K E th wh] : PuE K E (tSl (rSlL K) t tl th) (dSl fSlL w wl wh) where
  mono h := p.mono fun _ _ _ => pl.mono fun _ _ => ph.mono fun _ _ ⟨ds, e, c, q⟩ => ⟨ds, e, c, h _ _ q⟩
  run hE r q := sl3 (t := t) (tl := tl) (th := th) hE r q fun l x lo hi δ1 v hd1 H1 k1 r1 d1 ⟨ds, e, c, q⟩ => by
    subst e
    obtain ⟨a, vs, rfl, hs, ha⟩ := d1.seq r1.bs (.inl rfl)
    rcases hs with hs | hs
    · exact ⟨a, vs, rfl, nt_in.seq hs.2, fun p np => newLst r1 np (DzAll.upU (dp_cut ha) c) (q.kp k1)⟩
    · cases hs.1
def fSlT : Lv → PyData → Option Int → Option Int → (PyData → Prop) → Prop := fun l x lo hi Q => ∃ ds, x = .tuple ds ∧ okU l (cutG ds lo hi) ∧ (HT.sIx ds.length 0 lo = 0 ∧ HT.sIx ds.length ds.length hi = ds.length → l = .V) ∧ Q (.tuple (cutG ds lo hi))
theorem cutG_whole {α : Type} {xs : List α} {lo hi : Option Int} (h : HT.sIx xs.length 0 lo = 0 ∧ HT.sIx xs.length xs.length hi = xs.length) : cutG xs lo hi = xs := by
  unfold cutG; rw [h.1, h.2]; simp
instance {t : TE} {tl th : TO} {w : TRd} {wl wh : TDo} [p : PuR K E t w] [pl : PuO K E tl wl] [ph : PuO K E th wh] : PuE K E (tSl (rSlTZ K) t tl th) (dSl fSlT w wl wh) where
  mono h := p.mono fun _ _ _ => pl.mono fun _ _ => ph.mono fun _ _ ⟨ds, e, c, c2, q⟩ => ⟨ds, e, c, c2, h _ _ q⟩
  run hE r q := sl3 (t := t) (tl := tl) (th := th) hE r q fun l x lo hi δ1 v hd1 H1 k1 r1 d1 ⟨ds, e, c, c2, q⟩ => by
    subst e
    obtain ⟨a, vs, rfl, hs, ha⟩ := d1.seq r1.bs (.inr rfl)
    rcases hs with hs | hs
    · cases hs.1
    · refine ⟨a, vs, rfl, Same.seqT nt_in hs.2, fun hw => ?_, fun _ p ob np nd => newTup r1 np nd (DzAll.upU (dp_cut ha) c) (q.kp k1)⟩
      rw [DzAll.len ha] at hw
      have el := c2 hw
      subst el
      rw [cutG_whole hw] at q
      exact q _ _ _ k1 r1 d1
def fSlS : Lv → PyData → Option Int → Option Int → (PyData → Prop) → Prop := fun _ x lo hi Q => ∃ z, x = .str z ∧ z.length ≤ sizeLine ∧ Q (.str (cutS z lo hi))
instance {t : TE} {tl th : TO} {w : TRd} {wl wh : TDo} [p : PuR K E t w] [pl : PuO K E tl wl] [ph : PuO K E th wh] : PuE K E (tSl rSlS t tl th) (dSl fSlS w wl wh) where
  mono h := p.mono fun _ _ _ => pl.mono fun _ _ => ph.mono fun _ _ ⟨ds, e, c, q⟩ => ⟨ds, e, c, h _ _ q⟩
  run hE r q := sl3 (t := t) (tl := tl) (th := th) hE r q fun l x lo hi δ1 v hd1 H1 k1 r1 d1 ⟨z, e, c, q⟩ => by
    subst e
    have := d1.str r1.bs
    subst this
    exact ⟨z, rfl, c, q _ _ _ k1 r1 (.str _)⟩
end
end Rp

/-! New lists, targets, what is walked, comprehensions. -/
namespace Rp
open PySem PySem.Spec PyProof.Rows L2
section
variable {K : PySem.W.Frag} {E : XK}
/-! ### a list that stands in the heap as a list -/
def OutL (K : PySem.W.Frag) (F : Frm K) (hd : Addr → Prop) (σ : L2.St) (H : Hp) (Q : VK) (ds : List PyData) (δ' : DS) : Prop := ∀ p vs hd' H', Kp F hd H hd' H' → Rep K F hd' σ H' δ' → H' p = some (.lst vs) → ¬ F.T p → DzAll K (vis F hd' H') vs ds → Q (.ref p) H'
class PuL (K : PySem.W.Frag) (E : XK) (t : TE) (w : outParam TDa) : Prop where
  mono : ∀ {X : XP} {δ : DS} {Q Q' : List PyData → DS → Prop}, (∀ d δ', Q d δ' → Q' d δ') → w X δ Q → w X δ Q'
  run : ∀ {F : Frm K} {hd : Addr → Prop} {σ : L2.St} {H : Hp} {δ : DS} {Q : VK}, F.E = E → Rep K F hd σ H δ → w F.X δ (OutL K F hd σ H Q) → t σ H Q
theorem newL {F : Frm K} {hd : Addr → Prop} {σ : L2.St} {H : Hp} {δ : DS} {p : Addr} {vs : List V} {ds : List PyData} {Q : VK} (r : Rep K F hd σ H δ) (h : H p = none) (d : DzAll K (vis F hd H) vs ds) (q : OutL K F hd σ H Q ds δ) : Q (.ref p) (upd H p (.lst vs)) := by
  obtain ⟨k, r', s⟩ := r.new (.lst vs) h
  exact q _ _ _ _ k r' upd_same (r.fresh h).2.2 (DzAll.same s d)
theorem OutL.kp {F : Frm K} {hd hd1 : Addr → Prop} {σ : L2.St} {H H1 : Hp} {Q : VK} {d : List PyData} {δ : DS} (k : Kp F hd H hd1 H1) (q : OutL K F hd σ H Q d δ) : OutL K F hd1 σ H1 Q d δ := fun p vs hd' H' k' r' => q p vs hd' H' (k.trans k') r'
def lLst (w : TDa) : TDa := fun X δ Q => w X δ fun ds δ1 => ds.length ≤ sizeLine ∧ Q ds δ1
instance {t : TA} {w : TDa} [p : PuV K E t w] : PuL K E (tLst t) (lLst w) where
  mono h := p.mono fun _ _ q => ⟨q.1, h _ _ q.2⟩
  run hE r q := p.run hE r (p.mono (fun ds δ1 q vs hd1 H1 k1 r1 d1 => ⟨by rw [DzAll.len d1]; exact q.1, fun p np => newL r1 np d1 (q.2.kp k1)⟩) q)
def lVar (i : Nat) : TDa := fun _ δ Q => ∃ ds, δ.v[i]? = some (.own ds) ∧ Q ds δ
instance {i : Nat} : PuL K E (tVar i) (lVar i) where
  mono h := fun ⟨ds, e, q⟩ => ⟨ds, e, h _ _ q⟩
  run _ r := fun ⟨ds, e, q⟩ => by
    obtain ⟨a, vs, h1, h2, h3, h4⟩ := r.vars i _ e
    exact ⟨_, h1, q _ _ _ _ .refl r h3 (r.bs.not_t h2.1) h4⟩
def lSl (w : TRd) (wl wh : TDo) : TDa := fun X δ Q => w X δ fun l x δ1 => wl X δ1 fun lo δ2 => wh X δ2 fun hi δ3 => ∃ ds, x = .list ds ∧ okU l (cutG ds lo hi) ∧ Q (cutG ds lo hi) δ3
instance {t : TE} {tl th : TO} {w : TRd} {wl wh : TDo} [p : PuR K E t w] [pl : PuO K E tl wl] [ph : PuO K E th wh] : PuL K E (tSl (rSlL K) t tl th) (lSl w wl wh) where
  mono h := p.mono fun _ _ _ => pl.mono fun _ _ => ph.mono fun _ _ ⟨ds, e, c, q⟩ => ⟨ds, e, c, h _ _ q⟩
  run hE r q := sl3 (t := t) (tl := tl) (th := th) hE r q fun l x lo hi δ1 v hd1 H1 k1 r1 d1 ⟨ds, e, c, q⟩ => by
    subst e
    obtain ⟨a, vs, rfl, hs, ha⟩ := d1.seq r1.bs (.inl rfl)
    rcases hs with hs | hs
    · exact ⟨a, vs, rfl, nt_in.seq hs.2, fun p np => newL r1 np (DzAll.upU (dp_cut ha) c) (q.kp k1)⟩
    · cases hs.1
def lList (w : TRd) : TDa := fun X δ Q => w X δ fun l x δ1 => ∃ ds, Items x ds ∧ okU l ds ∧ Q ds δ1
instance {t : TE} {w : TRd} [p : PuR K E t w] : PuL K E (tCB (rListOf K) (tCons t tNil)) (lList w) where
  mono h := p.mono fun _ _ _ ⟨ds, i, c, q⟩ => ⟨ds, i, c, h _ _ q⟩
  run hE r q := un1 (t := t) hE r q fun l x δ1 v hd1 H1 k1 r1 d1 ⟨ds, i, c, q⟩ => by
    obtain ⟨a, vs, rfl, hs, ha⟩ := d1.seq r1.bs i
    exact ⟨a, vs, rfl, hs.imp (fun h => nt_in.seq h.2) (fun h => Same.seqT nt_in h.2), fun p np => newL r1 np (DzAll.upU ha c) (q.kp k1)⟩
theorem cat_run {ta tb : TE} {wa wb : TDa} [pa : PuL K E ta wa] [pb : PuL K E tb wb] {F : Frm K} {hd : Addr → Prop} {σ : L2.St} {H : Hp} {δ : DS} {Q : VK} (hE : F.E = E) (r : Rep K F hd σ H δ)
    (q : wa F.X δ fun ds δ1 => wb F.X δ1 fun es δ2 => ds.length + es.length ≤ sizeLine ∧ OutL K F hd σ H Q (ds ++ es) δ2) : tOp rCat ta tb σ H Q :=
  pa.run hE r (pa.mono (fun ds δ1 q p vs hd1 H1 k1 r1 h1 t1 d1 => pb.run hE r1 (pb.mono (fun es δ2 q p2 us hd2 H2 k2 r2 h2 t2 d2 => by
    have d1' := DzAll.same (vis_go r1.bs k2.go) d1
    exact ⟨p, p2, vs, us, rfl, rfl, k2.kp _ _ h1 t1, h2, by rw [DzAll.len d1, DzAll.len d2]; exact q.1, fun p np => newL r2 np (dpAll_app d1' d2) (q.2.kp (k1.trans k2))⟩) q)) q)
def lCat (wa wb : TDa) : TDa := fun X δ Q => wa X δ fun ds δ1 => wb X δ1 fun es δ2 => ds.length + es.length ≤ sizeLine ∧ Q (ds ++ es) δ2
instance {ta tb : TE} {wa wb : TDa} [pa : PuL K E ta wa] [pb : PuL K E tb wb] : PuL K E (tOp rCat ta tb) (lCat wa wb) where
  mono h := pa.mono fun _ _ => pb.mono fun _ _ q => ⟨q.1, h _ _ q.2⟩
  run hE r q := cat_run hE r q
def dL (w : TDa) : TD := fun X δ Q => w X δ fun ds δ1 => Q (.list ds) δ1
theorem OutL.of {F : Frm K} {hd : Addr → Prop} {σ : L2.St} {H : Hp} {Q : VK} {ds : List PyData} {δ : DS} {p : Addr} (q : Out K F hd σ H Q (.list ds) δ) {vs : List V} {hd' : Addr → Prop} {H' : Hp} (k : Kp F hd H hd' H') (r : Rep K F hd' σ H' δ) (h : vis F hd' H' p = some (.lst vs)) (d : DzAll K (vis F hd' H') vs ds) : Q (.ref p) H' :=
  q _ _ _ k r (.lst (.inl (.inl h)) d)
instance {ta tb : TE} {wa wb : TDa} [pa : PuL K E ta wa] [pb : PuL K E tb wb] : PuE K E (tOp rCat ta tb) (dL (lCat wa wb)) where
  mono h := pa.mono fun _ _ => pb.mono fun _ _ q => ⟨q.1, h _ _ q.2⟩
  run {F hd σ H δ Q} hE r q := pa.run hE r (pa.mono (fun ds δ1 q p vs hd1 H1 k1 r1 h1 t1 d1 => pb.run hE r1 (pb.mono (fun es δ2 q p2 us hd2 H2 k2 r2 h2 t2 d2 => by
    have d1' := DzAll.same (vis_go r1.bs k2.go) d1
    exact ⟨p, p2, vs, us, rfl, rfl, k2.kp _ _ h1 t1, h2, by rw [DzAll.len d1, DzAll.len d2]; exact q.1, fun p np => newLst r2 np (dpAll_app d1' d2) (q.2.kp (k1.trans k2))⟩) q)) q)
def dRep (wa : TDa) (wb : TRd) : TD := fun X δ Q => wa X δ fun ds δ1 => wb X δ1 fun _ y δ2 => ∃ k, y = .int k ∧ -(2 ^ 63) ≤ k ∧ k < 2 ^ 63 ∧ ds.length * k.toNat ≤ sizeLine ∧ Q (.list (List.replicate k.toNat ds).flatten) δ2
theorem dp_rep {H : Hp} {vs : List V} {ds : List PyData} (h : DzAll K H vs ds) : ∀ k : Nat, DzAll K H (List.replicate k vs).flatten (List.replicate k ds).flatten
  | 0 => .nil
  | k + 1 => by
    rw [List.replicate_succ, List.replicate_succ, List.flatten_cons, List.flatten_cons]
    exact dpAll_app h (dp_rep h k)
instance {ta tb : TE} {wa : TDa} {wb : TRd} [pa : PuL K E ta wa] [pb : PuR K E tb wb] : PuE K E (tOp rRep ta tb) (dRep wa wb) where
  mono h := pa.mono fun _ _ => pb.mono fun _ _ _ ⟨k, e, a, b, c, q⟩ => ⟨k, e, a, b, c, h _ _ q⟩
  run {F hd σ H δ Q} hE r q := pa.run hE r (pa.mono (fun ds δ1 q p vs hd1 H1 k1 r1 h1 t1 d1 => pb.run hE r1 (pb.mono (fun l y δ2 ⟨k, e, a, b, c, q⟩ u hd2 H2 k2 r2 d2 => by
    subst e
    have := d2.int r2.bs
    subst this
    have d1' := DzAll.same (vis_go r1.bs k2.go) d1
    exact ⟨p, k, vs, rfl, rfl, k2.kp _ _ h1 t1, a, b, by rw [DzAll.len d1]; exact c, fun p np => newLst r2 np (dp_rep d1' _) (q.kp (k1.trans k2))⟩) q)) q)
/-! ### targets -/
abbrev TDg := Lv → PyData → DS → (DS → Prop) → Prop
class PuG (K : PySem.W.Frag) (g : TG) (is : outParam (List Nat)) (w : outParam TDg) : Prop where
  mono : ∀ {l : Lv} {d : PyData} {δ : DS} {Q Q' : DS → Prop}, (∀ δ', Q δ' → Q' δ') → w l d δ Q → w l d δ Q'
  run : ∀ {F : Frm K} {hd : Addr → Prop} {σ : L2.St} {H : Hp} {δ : DS} {l : Lv} {v : V} {d : PyData} {Q : L2.St → Hp → Prop}, Rep K F hd σ H δ → RV K F hd H l v d → w l d δ (fun δ' => ∀ σ', Rep K F hd σ' H δ' → σ'.length = σ.length → (∀ j, j ∉ is → σ'[j]? = σ[j]?) → (∀ j, j ∉ is → δ'.v[j]? = δ.v[j]?) → Q σ' H) → g v σ H Q
def bnd : Lv → PyData → Option AV
  | .V, d => some (.dat d)
  | .R, d => some (if sc d then .dat d else .rd d)
  | _, _ => none
def gdName (i : Nat) : TDg := fun l d δ Q => ∃ a, bnd l d = some a ∧ Q ⟨δ.v.set i a, δ.n⟩
instance {i : Nat} : PuG K (gName i) [i] (gdName i) where
  mono h := fun ⟨a, e, q⟩ => ⟨a, e, h _ q⟩
  run {F hd σ H δ l v d Q} r rv := fun ⟨a, e, q⟩ => by
    refine q _ ?_ (by simp) (fun j hj => List.getElem?_set_ne (fun z => hj (by rw [z]; exact List.mem_singleton.mpr rfl))) (fun j hj => List.getElem?_set_ne (fun z => hj (by rw [z]; exact List.mem_singleton.mpr rfl)))
    cases l with
    | V => cases e; exact r.setDat rv
    | R =>
      have e : some (if sc d then AV.dat d else .rd d) = some a := e
      by_cases c : sc d = true
      · rw [if_pos c] at e; cases e; exact r.setDat (sc_any rv c)
      · rw [if_neg c] at e; cases e; exact r.setRd rv
    | SV => cases e
    | SR => cases e
abbrev TDgs := Lv → List PyData → DS → (DS → Prop) → Prop
class PuGs (K : PySem.W.Frag) (g : TGs) (is : outParam (List Nat)) (w : outParam TDgs) : Prop where
  mono : ∀ {l : Lv} {d : List PyData} {δ : DS} {Q Q' : DS → Prop}, (∀ δ', Q δ' → Q' δ') → w l d δ Q → w l d δ Q'
  run : ∀ {F : Frm K} {hd : Addr → Prop} {σ : L2.St} {H : Hp} {δ : DS} {l : Lv} {vs : List V} {ds : List PyData} {Q : L2.St → Hp → Prop}, Rep K F hd σ H δ → DzAll K (lvH F hd H l) vs ds → w l ds δ (fun δ' => ∀ σ', Rep K F hd σ' H δ' → σ'.length = σ.length → (∀ j, j ∉ is → σ'[j]? = σ[j]?) → (∀ j, j ∉ is → δ'.v[j]? = δ.v[j]?) → Q σ' H) → g vs σ H Q
def gdNil : TDgs := fun _ ds δ Q => ds = [] ∧ Q δ
def gdCons (wg : TDg) (wr : TDgs) : TDgs := fun l ds δ Q => ∃ d r, ds = d :: r ∧ wg l.ch d δ fun δ' => wr l r δ' Q
instance : PuGs K gNil [] gdNil where
  mono h := fun ⟨e, q⟩ => ⟨e, h _ q⟩
  run r d := fun ⟨e, q⟩ => by
    subst e
    cases d
    exact ⟨rfl, q _ r rfl (fun _ _ => rfl) (fun _ _ => rfl)⟩
instance {g : TG} {gs : TGs} {is js : List Nat} {wg : TDg} {wr : TDgs} [pg : PuG K g is wg] [pr : PuGs K gs js wr] : PuGs K (gCons g gs) (is ++ js) (gdCons wg wr) where
  mono h := fun ⟨d, r, e, q⟩ => ⟨d, r, e, pg.mono (fun _ => pr.mono h) q⟩
  run {F hd σ H δ l vs ds Q} r dd := fun ⟨d, rs, e, q⟩ => by
    subst e
    cases dd with
    | @cons v vs' _ _ a t =>
      refine ⟨v, vs', rfl, pg.run r (RV.item a) (pg.mono (fun δ1 q σ1 r1 l1 s1 v1 => pr.run r1 t (pr.mono (fun δ2 q σ2 r2 l2 s2 v2 => q σ2 r2 (l2.trans l1) (fun j hj => ?_) (fun j hj => ?_)) q)) q)⟩
      · rw [s2 j (fun z => hj (List.mem_append_right _ z)), s1 j (fun z => hj (List.mem_append_left _ z))]
      · rw [v2 j (fun z => hj (List.mem_append_right _ z)), v1 j (fun z => hj (List.mem_append_left _ z))]
def gdSq (n : Nat) (w : TDgs) : TDg := fun l d δ Q => ∃ ds, Items d ds ∧ ds.length = n ∧ w l ds δ Q
instance {n : Nat} {gs : TGs} {is : List Nat} {w : TDgs} [p : PuGs K gs is w] : PuG K (gSq K n gs) is (gdSq n w) where
  mono h := fun ⟨ds, i, e, q⟩ => ⟨ds, i, e, p.mono h q⟩
  run r rv := fun ⟨ds, i, e, q⟩ => by
    obtain ⟨a, vs, rfl, hs, ha⟩ := rv.seq r.bs i
    rcases hs with hs | hs
    · exact .inr ⟨a, vs, rfl, nt_in.seq hs.2, by rw [DzAll.len ha]; exact e, p.run r ha q⟩
    · exact .inl ⟨a, vs, rfl, Same.seqT nt_in hs.2, by rw [DzAll.len ha]; exact e, p.run r ha q⟩
def gdTup (n : Nat) (w : TDgs) : TDg := fun l d δ Q => ∃ ds, d = .tuple ds ∧ ds.length = n ∧ w l ds δ Q
instance {n : Nat} {gs : TGs} {is : List Nat} {w : TDgs} [p : PuGs K gs is w] : PuG K (gTup K n gs) is (gdTup n w) where
  mono h := fun ⟨ds, i, e, q⟩ => ⟨ds, i, e, p.mono h q⟩
  run r rv := fun ⟨ds, i, e, q⟩ => by
    obtain ⟨a, vs, rfl, hs, ha⟩ := rv.seq r.bs (.inr i)
    rcases hs with hs | hs
    · rw [i] at hs; cases hs.1
    · exact ⟨a, vs, rfl, Same.seqT nt_in hs.2, by rw [DzAll.len ha]; exact e, p.run r ha q⟩
/-! ### what is walked -/
abbrev TDi := XP → DS → (Lv → List PyData → DS → Prop) → Prop
/-- at its turn each thing of it: itself, or a new pair -/
def El (K : PySem.W.Frag) (F : Frm K) (hd : Addr → Prop) (H : Hp) (Hb : Hp) : Lv → V → PyData → Prop
  | .V, x, d => Dz K (vis F hd H) x d
  | .R, x, d => Dz K (rdH F hd H) x d
  | .SV, x, d => ∃ T vs ds, x = .ref T ∧ ¬ F.T T ∧ Hb T = some (.tup vs) ∧ d = .tuple ds ∧ DzAll K (vis F hd H) vs ds
  | .SR, x, d => ∃ T vs ds, x = .ref T ∧ ¬ F.T T ∧ Hb T = some (.tup vs) ∧ d = .tuple ds ∧ DzAll K (rdH F hd H) vs ds
theorem El.rv {F : Frm K} {hd hd1 : Addr → Prop} {H Hb : Hp} {l : Lv} {x : V} {d : PyData} (B : Bs F hd H) (g : Go F hd H hd1 Hb) (h : El K F hd H Hb l x d) : RV K F hd1 Hb l x d := by
  cases l with
  | V => exact Dz.same (vis_go B g) h
  | R => exact Dz.same (rd_go g) h
  | SV =>
    obtain ⟨T, vs, ds, rfl, t, e, e2, dd⟩ := h
    exact ⟨T, vs, ds, rfl, .inr ⟨e2, .inl (.inl (by rw [nt_at t]; exact e))⟩, DzAll.same (vis_go B g) dd⟩
  | SR =>
    obtain ⟨T, vs, ds, rfl, t, e, e2, dd⟩ := h
    exact ⟨T, vs, ds, rfl, .inr ⟨e2, .inl (.inl (by rw [nt_at t]; exact e))⟩, DzAll.same (rd_go g) dd⟩
/-- what is read may not change meanwhile: by Hk -/
def OutI (K : PySem.W.Frag) (F : Frm K) (hd : Addr → Prop) (σ : L2.St) (H : Hp) (Hk : (Addr → Prop) → Hp → Hp) (R : It → Hp → Prop) (l : Lv) (its : List PyData) (δ' : DS) : Prop := ∀ J hd' H', Kp F hd H hd' H' → Rep K F hd' σ H' δ' →
  Walk J its.length (fun H2 => Same (Hk hd' H') H2 ∧ ∀ b, F.T b → (H2 b).isSome = true) (fun i Ha x Hb => Same Ha Hb ∧ ∃ d, its[i]? = some d ∧ El K F hd' H' Hb l x d) → R J H'
/-- in a comprehension: one's own lists stand still, too -/
class PuI (K : PySem.W.Frag) (E : XK) (t : TI) (w : outParam TDi) : Prop where
  mono : ∀ {X : XP} {δ : DS} {Q Q' : Lv → List PyData → DS → Prop}, (∀ l d δ', Q l d δ' → Q' l d δ') → w X δ Q → w X δ Q'
  run : ∀ {F : Frm K} {hd : Addr → Prop} {σ : L2.St} {H : Hp} {δ : DS} {R : It → Hp → Prop}, F.E = E → Rep K F hd σ H δ → w F.X δ (OutI K F hd σ H (fun _ H => ntH F H) R) → t σ H R
/-- in a for -/
class PuF (K : PySem.W.Frag) (E : XK) (t : TI) (w : outParam TDi) : Prop where
  mono : ∀ {X : XP} {δ : DS} {Q Q' : Lv → List PyData → DS → Prop}, (∀ l d δ', Q l d δ' → Q' l d δ') → w X δ Q → w X δ Q'
  run : ∀ {F : Frm K} {hd : Addr → Prop} {σ : L2.St} {H : Hp} {δ : DS} {R : It → Hp → Prop}, F.E = E → Rep K F hd σ H δ → w F.X δ (OutI K F hd σ H (fun hd H => rdH F hd H) R) → t σ H R
def iSq (w : TRd) : TDi := fun X δ Q => w X δ fun l x δ1 => ∃ ds, Items x ds ∧ Q l.ch ds δ1
theorem walk_seq {F : Frm K} {hd : Addr → Prop} {H Hs : Hp} {l : Lv} {a : Addr} {vs : List V} {ds : List PyData} (ha : DzAll K (lvH F hd H l) vs ds) : 
    (SqL K Hs a vs → Walk (Itl K a) ds.length (fun H2 => Same Hs H2 ∧ ∀ b, F.T b → (H2 b).isSome = true) (fun i Ha x Hb => Same Ha Hb ∧ ∃ d, ds[i]? = some d ∧ El K F hd H Hb l.ch x d)) ∧
    (SqT K Hs a vs → Walk (Itt K a) ds.length (fun H2 => Same Hs H2 ∧ ∀ b, F.T b → (H2 b).isSome = true) (fun i Ha x Hb => Same Ha Hb ∧ ∃ d, ds[i]? = some d ∧ El K F hd H Hb l.ch x d)) := by
  have el : ∀ i x, vs[i]? = some x → ∃ d, ds[i]? = some d ∧ ∀ Hb, El K F hd H Hb l.ch x d := fun i x e => by
    obtain ⟨d, h1, h2⟩ := DzAll.at ha e
    exact ⟨d, h1, fun Hb => by cases l <;> exact h2⟩
  rw [← DzAll.len ha]
  refine ⟨fun h => walk_list.mono (fun H' s => s.1.seq h) (fun i Ha x Hb _ _ y => ?_), fun h => walk_tup.mono (fun H' s => Same.seqT s.1 h) (fun i Ha x Hb _ _ y => ?_)⟩
  · obtain ⟨rfl, e⟩ := y
    obtain ⟨d, h1, h2⟩ := el i x e
    exact ⟨fun _ _ e => e, d, h1, h2 _⟩
  · obtain ⟨rfl, e⟩ := y
    obtain ⟨d, h1, h2⟩ := el i x e
    exact ⟨fun _ _ e => e, d, h1, h2 _⟩
/-- a list or a tuple, whatever tells it -/
def iAny (K : PySem.W.Frag) (tl : TE) : TI := fun σ H R => tl σ H fun x H1 => ∃ a, x = .ref a ∧ (((∃ xs, SqL K H1 a xs) ∧ R (Itl K a) H1) ∨ ((∃ xs, SqT K H1 a xs) ∧ R (Itt K a) H1))
theorem pi_any {X : Cx} {tg l : Expr} {tl : TE} (hl : PE X l tl) : PI X tg l (iAny X.K tl) := by
  refine ⟨fun pins s σ H R I h => ?_⟩
  refine thn (hl.run pins s σ H _ I h) fun v s1 ⟨x, H1, I1, r1, q1⟩ => ?_
  obtain ⟨a, e, q1⟩ := q1
  subst e
  cases r1
  rcases q1 with ⟨⟨xs, hq⟩, q⟩ | ⟨⟨xs, hq⟩, q⟩
  · obtain ⟨its, rv, p, hz⟩ := I1.list hq
    refine wpAny_pyIter_list p.isList ?_
    refine ⟨s1.heap.objs.size, [s1.heap.objs.size], _, _, H1, rfl, I1.kept (t' := s1.toks) fun b o e => Heap.get?_push_of_some _ e, turn_list a _, ⟨_, Heap.get?_push_size _ rfl, rfl, rfl⟩, fun b hb => ?_, q⟩
    have e : b = s1.heap.objs.size := by simpa using hb
    subst e
    exact I1.fpOk (Nat.le_refl _) (I1.hok.fresh (Nat.le_refl _))
  · obtain ⟨its, rv, p, hz⟩ := I1.tuple hq
    refine wpAny_pyIter_tuple (show s1.heap.IsTuple a its.toArray from p) ?_
    refine ⟨s1.heap.objs.size, [s1.heap.objs.size], _, _, H1, rfl, I1.kept (t' := s1.toks) fun b o e => Heap.get?_push_of_some _ e, turn_tuple a _, ⟨_, Heap.get?_push_size _ rfl, rfl, rfl⟩, fun b hb => ?_, q⟩
    have e : b = s1.heap.objs.size := by simpa using hb
    subst e
    exact I1.fpOk (Nat.le_refl _) (I1.hok.fresh (Nat.le_refl _))
instance {t : TE} {w : TRd} [p : PuR K E t w] : PuI K E (iAny K t) (iSq w) where
  mono h := p.mono fun _ _ _ ⟨ds, i, q⟩ => ⟨ds, i, h _ _ _ q⟩
  run {F hd σ H δ R} hE r q := un1 (t := t) hE r q fun l x δ1 v hd1 H1 k1 r1 d1 ⟨ds, i, q⟩ => by
    obtain ⟨a, vs, rfl, hs, ha⟩ := d1.seq r1.bs i
    obtain ⟨w1, w2⟩ := walk_seq (Hs := ntH F H1) (a := a) ha
    refine ⟨a, rfl, ?_⟩
    rcases hs with hs | hs
    · exact .inl ⟨⟨vs, nt_in.seq hs.2⟩, q _ _ _ k1 r1 (w1 hs.2)⟩
    · exact .inr ⟨⟨vs, Same.seqT nt_in hs.2⟩, q _ _ _ k1 r1 (w2 hs.2)⟩
/-- walked by a for: one's own list is told on -/
theorem for_run {F : Frm K} {hd hd1 : Addr → Prop} {σ : L2.St} {H H1 : Hp} {δ1 : DS} {R : It → Hp → Prop} {l : Lv} {v : V} {x : PyData} {ds : List PyData} (k1 : Kp F hd H hd1 H1) (r1 : Rep K F hd1 σ H1 δ1) (d1 : Dz K (lvH F hd1 H1 l) v x) (i : Items x ds) (q : OutI K F hd σ H (fun hd H => rdH F hd H) R l.ch ds δ1) :
    ∃ a, v = .ref a ∧ (((∃ xs, SqL K H1 a xs) ∧ R (Itl K a) H1) ∨ ((∃ xs, SqT K H1 a xs) ∧ R (Itt K a) H1)) := by
  have s : Same (lvH F hd1 H1 l) (rdH F hd1 H1) := by cases l <;> first | exact vis_rd r1.bs | exact fun _ _ e => e
  obtain ⟨a, vs, ds', rfl, hs, ha⟩ := Dz.shell s d1 (by rcases i with rfl | rfl <;> rfl)
  have e : ds' = ds := by rcases i with rfl | rfl <;> rcases hs with h | h <;> cases h.1 <;> rfl
  subst e
  obtain ⟨w1, w2⟩ := walk_seq (Hs := rdH F hd1 H1) (a := a) ha
  refine ⟨a, rfl, ?_⟩
  rcases hs with hs | hs
  · exact .inl ⟨⟨vs, (rd_nt.trans nt_in).seq hs.2.sq⟩, q _ _ _ k1 r1 (w1 hs.2.sq)⟩
  · exact .inr ⟨⟨vs, Same.seqT (rd_nt.trans nt_in) hs.2⟩, q _ _ _ k1 r1 (w2 hs.2)⟩
def dFz (i : Nat) : TRd := fun _ δ Q => match δ.v[i]? with
  | some (.dat d) => Q .V d δ
  | some (.rd d) => Q .R d δ
  | some (.own ds) => Q .V (.list ds) ⟨δ.v.set i (.dat (.list ds)), δ.n⟩
  | _ => False
instance {i : Nat} : PuF K E (iAny K (tVar i)) (iSq (dFz i)) where
  mono {X δ Q Q'} h := by
    unfold iSq dFz
    split
    · exact fun ⟨ds, i, q⟩ => ⟨ds, i, h _ _ _ q⟩
    · exact fun ⟨ds, i, q⟩ => ⟨ds, i, h _ _ _ q⟩
    · exact fun ⟨ds, i, q⟩ => ⟨ds, i, h _ _ _ q⟩
    · exact fun q => q
  run {F hd σ H δ R} hE r q := by
    unfold iSq dFz at q
    split at q
    · rename_i d e
      obtain ⟨v, h1, h2⟩ := r.vars i _ e
      obtain ⟨ds, it, q⟩ := q
      exact ⟨v, h1, for_run (l := .V) .refl r h2 it q⟩
    · rename_i d e
      obtain ⟨v, h1, h2⟩ := r.vars i _ e
      obtain ⟨ds, it, q⟩ := q
      exact ⟨v, h1, for_run (l := .R) .refl r h2 it q⟩
    · rename_i ds e
      obtain ⟨a, hd', h1, k, r', dp⟩ := r.freeze e
      obtain ⟨ds, it, q⟩ := q
      exact ⟨_, h1, for_run (l := .V) k r' dp it q⟩
    · exact q.elim
instance (priority := 100) {t : TE} {w : TD} [p : PuE K E t w] : PuF K E (iAny K t) (iSq (dVal w)) where
  mono h := p.mono fun _ _ ⟨ds, i, q⟩ => ⟨ds, i, h _ _ _ q⟩
  run {F hd σ H δ R} hE r q := p.run hE r (p.mono (fun x δ1 ⟨ds, i, q⟩ v hd1 H1 k1 r1 d1 => for_run (l := .V) k1 r1 d1 i q) q)
/-- range -/
def rgD (m : Nat) : List PyData := (List.range m).map fun i => .int (i : Nat)
def iRg (w : TRd) : TDi := fun X δ Q => w X δ fun _ x δ1 => ∃ j : Int, x = .int j ∧ -(2 ^ 62) ≤ j ∧ j < 2 ^ 62 ∧ Q .V (rgD j.toNat) δ1
theorem rg_run {F : Frm K} {hd hd1 : Addr → Prop} {σ : L2.St} {H H1 : Hp} {δ1 : DS} {Hk : (Addr → Prop) → Hp → Hp} {R : It → Hp → Prop} {j : Int} (k1 : Kp F hd H hd1 H1) (r1 : Rep K F hd1 σ H1 δ1) (q : OutI K F hd σ H Hk R .V (rgD j.toNat) δ1) : R (Itr 0 j.toNat) H1 := by
  refine q _ _ _ k1 r1 ?_
  unfold rgD
  rw [List.length_map, List.length_range]
  refine walk_range.mono (fun _ _ => trivial) (fun i Ha x Hb hi _ y => ?_)
  obtain ⟨rfl, e⟩ := y
  subst e
  refine ⟨fun _ _ e => e, .int (i : Nat), by simp [hi], ?_⟩
  simp only [Int.zero_add]
  exact .int _
instance {t : TE} {w : TRd} [p : PuR K E t w] : PuI K E (iRng1 (tCons t tNil)) (iRg w) where
  mono h := p.mono fun _ _ _ ⟨j, e, a, b, q⟩ => ⟨j, e, a, b, h _ _ _ q⟩
  run {F hd σ H δ R} hE r q := un1 (t := t) hE r q fun l x δ1 v hd1 H1 k1 r1 d1 ⟨j, e, a, b, q⟩ => ⟨j, by subst e; rw [d1.int r1.bs], a, b, rg_run k1 r1 q⟩
instance {t : TE} {w : TRd} [p : PuR K E t w] : PuF K E (iRng1 (tCons t tNil)) (iRg w) where
  mono h := p.mono fun _ _ _ ⟨j, e, a, b, q⟩ => ⟨j, e, a, b, h _ _ _ q⟩
  run {F hd σ H δ R} hE r q := un1 (t := t) hE r q fun l x δ1 v hd1 H1 k1 r1 d1 ⟨j, e, a, b, q⟩ => ⟨j, by subst e; rw [d1.int r1.bs], a, b, rg_run k1 r1 q⟩
/-- enumerate of a list -/
def enD (ds : List PyData) : List PyData := ds.zipIdx.map fun p => .tuple [.int (p.2 : Nat), p.1]
theorem enD_at {ds : List PyData} {i : Nat} {d : PyData} (h : ds[i]? = some d) : (enD ds)[i]? = some (.tuple [.int (i : Nat), d]) := by simp [enD, h]
theorem enD_len (ds : List PyData) : (enD ds).length = ds.length := by simp [enD]
def iEn (w : TRd) : TDi := fun X δ Q => w X δ fun l x δ1 => ∃ ds, x = .list ds ∧ Q l.ch.sh (enD ds) δ1
theorem en_walk {F : Frm K} {hd : Addr → Prop} {H Hs : Hp} {l : Lv} {a : Addr} {vs : List V} {ds : List PyData} (ha : DzAll K (lvH F hd H l) vs ds) (h : SqL K Hs a vs) : Walk (Ite K a) (enD ds).length (fun H2 => Same Hs H2 ∧ ∀ b, F.T b → (H2 b).isSome = true) (fun i Ha x Hb => Same Ha Hb ∧ ∃ d, (enD ds)[i]? = some d ∧ El K F hd H Hb l.ch.sh x d) := by
  rw [enD_len, ← DzAll.len ha]
  refine walk_enum.mono (fun H' s => s.1.seq h) (fun i Ha x Hb _ g y => ?_)
  obtain ⟨T, x1, x2, rfl, nT, rfl, e1, e2⟩ := y
  have e1 : V.int (i : Nat) = x1 := Option.some.inj e1
  subst e1
  obtain ⟨d, h1, h2⟩ := DzAll.at ha e2
  have nt : ¬ F.T T := fun t => by have := g.2 T t; rw [nT] at this; cases this
  refine ⟨Same.new nT, _, enD_at h1, ?_⟩
  cases l <;> exact ⟨T, _, _, rfl, nt, upd_same, rfl, .cons (.int _) (.cons h2 .nil)⟩
instance {t : TE} {w : TRd} [p : PuR K E t w] : PuI K E (iEnum K (tCons t tNil)) (iEn w) where
  mono h := p.mono fun _ _ _ ⟨ds, e, q⟩ => ⟨ds, e, h _ _ _ q⟩
  run {F hd σ H δ R} hE r q := un1 (t := t) hE r q fun l x δ1 v hd1 H1 k1 r1 d1 ⟨ds, e, q⟩ => by
    subst e
    obtain ⟨a, vs, rfl, hs, ha⟩ := d1.seq r1.bs (.inl rfl)
    rcases hs with hs | hs
    · exact ⟨a, vs, rfl, nt_in.seq hs.2, q _ _ _ k1 r1 (en_walk ha hs.2)⟩
    · cases hs.1
theorem enF_run {F : Frm K} {hd hd1 : Addr → Prop} {σ : L2.St} {H H1 : Hp} {δ1 : DS} {R : It → Hp → Prop} {l : Lv} {v : V} {ds : List PyData} (k1 : Kp F hd H hd1 H1) (r1 : Rep K F hd1 σ H1 δ1) (d1 : Dz K (lvH F hd1 H1 l) v (.list ds)) (q : OutI K F hd σ H (fun hd H => rdH F hd H) R l.ch.sh (enD ds) δ1) :
    ∃ a xs, [v] = [.ref a] ∧ SqL K H1 a xs ∧ R (Ite K a) H1 := by
  have s : Same (lvH F hd1 H1 l) (rdH F hd1 H1) := by cases l <;> first | exact vis_rd r1.bs | exact fun _ _ e => e
  obtain ⟨a, vs, ds', rfl, hs, ha⟩ := Dz.shell s d1 rfl
  rcases hs with hs | hs
  · cases hs.1
    exact ⟨a, vs, rfl, (rd_nt.trans nt_in).seq hs.2.sq, q _ _ _ k1 r1 (en_walk ha hs.2.sq)⟩
  · cases hs.1
instance {i : Nat} : PuF K E (iEnum K (tCons (tVar i) tNil)) (iEn (dFz i)) where
  mono {X δ Q Q'} h := by
    unfold iEn dFz
    split
    · exact fun ⟨ds, i, q⟩ => ⟨ds, i, h _ _ _ q⟩
    · exact fun ⟨ds, i, q⟩ => ⟨ds, i, h _ _ _ q⟩
    · exact fun ⟨ds, i, q⟩ => ⟨ds, i, h _ _ _ q⟩
    · exact fun q => q
  run {F hd σ H δ R} hE r q := by
    unfold iEn dFz at q
    split at q
    · rename_i d e
      obtain ⟨v, h1, h2⟩ := r.vars i _ e
      obtain ⟨ds, it, q⟩ := q
      subst it
      exact ⟨v, h1, enF_run (l := .V) .refl r h2 q⟩
    · rename_i d e
      obtain ⟨v, h1, h2⟩ := r.vars i _ e
      obtain ⟨ds, it, q⟩ := q
      subst it
      exact ⟨v, h1, enF_run (l := .R) .refl r h2 q⟩
    · rename_i ds e
      obtain ⟨a, hd', h1, k, r', dp⟩ := r.freeze e
      obtain ⟨ds, it, q⟩ := q
      cases it
      exact ⟨_, h1, enF_run (l := .V) k r' dp q⟩
    · exact q.elim
instance (priority := 100) {t : TE} {w : TD} [p : PuE K E t w] : PuF K E (iEnum K (tCons t tNil)) (iEn (dVal w)) where
  mono h := p.mono fun _ _ ⟨ds, i, q⟩ => ⟨ds, i, h _ _ _ q⟩
  run {F hd σ H δ R} hE r q := p.run hE r (p.mono (fun x δ1 ⟨ds, i, q⟩ v hd1 H1 k1 r1 d1 => by subst i; exact enF_run (l := .V) k1 r1 d1 q) q)
/-- zip of two lists, or of two tuples -/
def zpD (ds es : List PyData) : List PyData := (ds.zip es).map fun p => .tuple [p.1, p.2]
def zLv (l m : Lv) : Lv := match l.ch, m.ch with
  | .V, .V => .SV | _, _ => .SR
def iZp (wa wb : TRd) : TDi := fun X δ Q => wa X δ fun l x δ1 => wb X δ1 fun m y δ2 => ∃ ds es, ((x = .list ds ∧ y = .list es) ∨ (x = .tuple ds ∧ y = .tuple es)) ∧ Q (zLv l m) (zpD ds es) δ2
theorem zp_el {F : Frm K} {hd : Addr → Prop} {H : Hp} {l m : Lv} {vs us : List V} {ds es : List PyData} (B : Bs F hd H) (ha : DzAll K (lvH F hd H l) vs ds) (hb : DzAll K (lvH F hd H m) us es) {i : Nat} {Ha Hb : Hp} {x : V} (g : ∀ b, F.T b → (Ha b).isSome = true) (y : YPair (fun i => vs[i]?) (fun i => us[i]?) i Ha x Hb) :
    Same Ha Hb ∧ ∃ d, (zpD ds es)[i]? = some d ∧ El K F hd H Hb (zLv l m) x d := by
  obtain ⟨T, x1, x2, rfl, nT, rfl, e1, e2⟩ := y
  obtain ⟨d, h1, h2⟩ := DzAll.at ha e1
  obtain ⟨e, h3, h4⟩ := DzAll.at hb e2
  have nt : ¬ F.T T := fun t => by have := g T t; rw [nT] at this; cases this
  refine ⟨Same.new nT, .tuple [d, e], ?_, ?_⟩
  · simp [zpD, List.getElem?_zip_eq_some, h1, h3]
  · have w1 := RV.weak B h2
    have w2 := RV.weak B h4
    cases l <;> cases m <;> first
      | exact ⟨T, _, _, rfl, nt, upd_same, rfl, .cons h2 (.cons h4 .nil)⟩
      | exact ⟨T, _, _, rfl, nt, upd_same, rfl, .cons w1 (.cons w2 .nil)⟩
instance {ta tb : TE} {wa wb : TRd} [pa : PuR K E ta wa] [pb : PuR K E tb wb] : PuI K E (RZ.iZipA K (tCons ta (tCons tb tNil))) (iZp wa wb) where
  mono h := pa.mono fun _ _ _ => pb.mono fun _ _ _ ⟨ds, es, e, q⟩ => ⟨ds, es, e, h _ _ _ q⟩
  run {F hd σ H δ R} hE r q := bin2 (ta := ta) (tb := tb) hE r q fun l x m y δ1 v u hd1 H1 k1 r1 d1 d2 ⟨ds, es, e, q⟩ => by
    rcases e with ⟨rfl, rfl⟩ | ⟨rfl, rfl⟩
    · obtain ⟨a, vs, rfl, hs, ha⟩ := d1.seq r1.bs (.inl rfl)
      obtain ⟨b, us, rfl, hs2, hb⟩ := d2.seq r1.bs (.inl rfl)
      rcases hs with hs | hs
      · rcases hs2 with hs2 | hs2
        · refine ⟨a, b, vs, us, rfl, .inl ⟨nt_in.seq hs.2, nt_in.seq hs2.2, q _ _ _ k1 r1 ?_⟩⟩
          rw [show (zpD ds es).length = min vs.length us.length by simp [zpD, DzAll.len ha, DzAll.len hb]]
          exact (walk_zip rfl).mono (fun H' s => ⟨s.1.seq hs.2, s.1.seq hs2.2⟩) (fun i Ha x Hb _ g y => zp_el r1.bs ha hb g.2 y)
        · cases hs2.1
      · cases hs.1
    · obtain ⟨a, vs, rfl, hs, ha⟩ := d1.seq r1.bs (.inr rfl)
      obtain ⟨b, us, rfl, hs2, hb⟩ := d2.seq r1.bs (.inr rfl)
      rcases hs with hs | hs
      · cases hs.1
      · rcases hs2 with hs2 | hs2
        · cases hs2.1
        · refine ⟨a, b, vs, us, rfl, .inr ⟨Same.seqT nt_in hs.2, Same.seqT nt_in hs2.2, q _ _ _ k1 r1 ?_⟩⟩
          rw [show (zpD ds es).length = min vs.length us.length by simp [zpD, DzAll.len ha, DzAll.len hb]]
          exact (walk_zipT rfl).mono (fun H' s => ⟨Same.seqT s.1 hs.2, Same.seqT s.1 hs2.2⟩) (fun i Ha x Hb _ g y => zp_el r1.bs ha hb g.2 y)
end
end Rp

/-! Comprehensions, statements, whole defs. -/
namespace Rp
open PySem PySem.Spec PyProof.Rows L2
section
variable {K : PySem.W.Frag} {E : XK}
/-! ### comprehensions -/
def wipeD (v : List AV) : List Nat → List AV
  | [] => v
  | i :: is => (wipeD v is).set i .no
theorem Rep.wipe {F : Frm K} {hd : Addr → Prop} {σ : L2.St} {H : Hp} {δ : DS} (r : Rep K F hd σ H δ) : ∀ is : List Nat, Rep K F hd (L2.wipe σ is) H ⟨wipeD δ.v is, δ.n⟩
  | [] => r
  | i :: is => (r.wipe is).drop
theorem wipe_at {σ : L2.St} {j : Nat} : ∀ {vs : List Nat}, (L2.wipe σ vs)[j]? = if j ∈ vs then (if j < σ.length then some none else none) else σ[j]?
  | [] => by simp [L2.wipe]
  | v :: vs => by
    have ih := wipe_at (σ := σ) (j := j) (vs := vs)
    unfold L2.wipe
    by_cases e : v = j
    · subst e
      by_cases lv : v < σ.length
      · rw [List.getElem?_set_self (by rw [wipe_length]; exact lv)]; simp [lv]
      · rw [List.getElem?_eq_none (by rw [List.length_set, wipe_length]; omega)]; simp [lv]
    · rw [List.getElem?_set_ne e, ih]
      have : j ∈ v :: vs ↔ j ∈ vs := by simp [Ne.symm e]
      simp only [this]
theorem wipe_eq {σ σ2 : L2.St} {vs is : List Nat} (h : ∀ i ∈ is, i ∈ vs) (l : σ2.length = σ.length) (e : ∀ j, j ∉ is → σ2[j]? = (L2.wipe σ vs)[j]?) : L2.wipe σ2 vs = L2.wipe σ vs := by
  apply List.ext_getElem?
  intro j
  rw [wipe_at]
  by_cases c : j ∈ vs
  · rw [if_pos c, wipe_at, if_pos c, l]
  · rw [if_neg c, e j (fun z => c (h j z))]
/-- a comprehension's turns, by what holds ahead of each -/
def lcGo (step : PyData → List PyData → Nat → (List PyData → Nat → Prop) → Prop) (its acc : List PyData) (n : Nat) (k : List PyData → Nat → Prop) : Prop :=
  ∃ I : Nat → List PyData → Nat → Prop, I 0 acc n ∧ (∀ (i : Nat) (x : PyData) acc n, its[i]? = some x → I i acc n → step x acc n (I (i + 1))) ∧ ∀ acc n, I its.length acc n → k acc n
theorem lcGo_mono {step : PyData → List PyData → Nat → (List PyData → Nat → Prop) → Prop} (its acc : List PyData) (n : Nat) {k k' : List PyData → Nat → Prop} (h : ∀ a m, k a m → k' a m) : lcGo step its acc n k → lcGo step its acc n k' :=
  fun ⟨I, a, b, c⟩ => ⟨I, a, b, fun acc n z => h _ _ (c acc n z)⟩
/-- one turn of a comprehension -/
def lcStep (X : XP) (l : Lv) (v : List AV) (vs : List Nat) (wg : TDg) (wt : TDt) (we : TD) : PyData → List PyData → Nat → (List PyData → Nat → Prop) → Prop := fun x acc n k =>
  wg l x ⟨wipeD v vs, n⟩ fun δ2 => wt X δ2 fun b δ3 => δ3.v = δ2.v ∧ if b = true then we X δ3 fun y δ4 => δ4.v = δ2.v ∧ acc.length < sizeLine ∧ k (acc ++ [y]) δ4.n else k acc δ3.n
def isOwn : Option AV → Bool
  | some (.own _) => true | some (.down _) => true | _ => false
def isOwL : Option AV → Bool
  | some (.own _) => true | _ => false
def lcOk (is vs : List Nat) (v : List AV) : Bool := is.all (fun i => decide (i ∈ vs)) && vs.all (fun i => !isOwn v[i]?)
def lLc (is : List Nat) (wI : TDi) (wg : TDg) (wt : TDt) (we : TD) (vs : List Nat) : TDa := fun X δ Q => wI X δ fun l its δ1 => lcOk is vs δ1.v = true ∧ lcGo (lcStep X l δ1.v vs wg wt we) its [] δ1.n fun acc n => Q acc ⟨δ1.v, n⟩
theorem Kp.back {F : Frm K} {hd hd1 : Addr → Prop} {H H1 : Hp} (k : Kp F hd H hd1 H1) {p : Addr} (t : ¬ F.T p) (h : H1 p = none) : H p = none := by
  cases e : H p with
  | none => rfl
  | some o => rw [k.kp p o e t] at h; cases h
/-- a new list: it is nobody's yet -/
def OutN (K : PySem.W.Frag) (F : Frm K) (hd : Addr → Prop) (σ : L2.St) (H : Hp) (Q : VK) (ds : List PyData) (δ' : DS) : Prop := ∀ p vs hd' H', Kp F hd H hd' H' → Rep K F hd' σ H' δ' → Rep K F (fun b => hd' b ∨ b = p) σ H' δ' → ¬ hd' p → (F.H0 p = none ∧ H p = none) → H' p = some (.lst vs) → DzAll K (vis F (fun b => hd' b ∨ b = p) H') vs ds → Q (.ref p) H'
theorem vis_less {F : Frm K} {hd hd1 : Addr → Prop} {H : Hp} (h : ∀ b, hd1 b → hd b) : Same (vis F hd H) (vis F hd1 H) := fun b o e => by
  obtain ⟨c, e⟩ := vis_some e
  have c' : ¬ hd1 b := fun z => c (h b z)
  rcases e with e | e
  · exact vis_old c' e.2
  · rw [vis_new c' e.1]; exact e.2
theorem OutL.n {F : Frm K} {hd : Addr → Prop} {σ : L2.St} {H : Hp} {Q : VK} {ds : List PyData} {δ' : DS} (q : OutL K F hd σ H Q ds δ') : OutN K F hd σ H Q ds δ' := fun p vs hd' H' k r r2 np n0 h d =>
  q p vs hd' H' k r h (fun t => by have := F.ta p t; rw [n0.1] at this; cases this) (DzAll.same (vis_less fun _ z => .inl z) d)
theorem Out.n {F : Frm K} {hd : Addr → Prop} {σ : L2.St} {H : Hp} {Q : VK} {ds : List PyData} {δ' : DS} (q : Out K F hd σ H Q (.list ds) δ') : OutN K F hd σ H Q ds δ' := fun p vs hd' H' k r r2 np n0 h d =>
  q _ _ _ k r (.lst (.inl (.inl (by rw [vis_new np n0.1]; exact h))) (DzAll.same (vis_less fun _ z => .inl z) d))
theorem OutN.kp {F : Frm K} {hd hd1 : Addr → Prop} {σ : L2.St} {H H1 : Hp} {Q : VK} {d : List PyData} {δ : DS} (k : Kp F hd H hd1 H1) (q : OutN K F hd σ H Q d δ) : OutN K F hd1 σ H1 Q d δ := fun p vs hd' H' k' r' r2 np n0 => q p vs hd' H' (k.trans k') r' r2 np ⟨n0.1, k.back (fun t => by have := F.ta p t; rw [n0.1] at this; cases this) n0.2⟩
theorem newN {F : Frm K} {hd : Addr → Prop} {σ : L2.St} {H : Hp} {δ : DS} {p : Addr} {vs : List V} {ds : List PyData} {Q : VK} (r : Rep K F hd σ H δ) (h : H p = none) (d : DzAll K (vis F hd H) vs ds) (q : OutN K F hd σ H Q ds δ) : Q (.ref p) (upd H p (.lst vs)) := by
  obtain ⟨k, r', s⟩ := r.new (.lst vs) h
  obtain ⟨f1, f2, f3⟩ := r.fresh h
  have kk : ∀ b o, H b = some o → ¬ F.T b → (upd H p (.lst vs)) b = some o := fun b o e t => k.kp b o e t
  have g : Go F hd H (fun b => hd b ∨ b = p) (upd H p (.lst vs)) := ⟨fun b o e t _ => kk b o e t, fun b z => z.elim .inl fun z => .inr (by rw [z]; exact h)⟩
  refine q p vs hd _ k r' (r.grow (n := δ.n) kk (fun _ z => .inl z) g.less (fun b z => ?_) (fun b t => (r.cat b t).new h)) f1 ⟨f2, h⟩ upd_same (DzAll.same (vis_go r.bs g) d)
  rcases z with z | z
  · have := r.bs.hs b z
    cases e : H b with
    | none => rw [e] at this; cases this
    | some o => rw [kk b o e (r.bs.not_t z)]; rfl
  · rw [z, upd_same]; rfl
/-- the state at a turn -/
def Plc (K : PySem.W.Frag) (F : Frm K) (hd : Addr → Prop) (H1 : Hp) (I : Nat → List PyData → Nat → Prop) (D : Addr) (i : Nat) (H : Hp) : Prop :=
  ∃ n acc ws, (∀ b o, H1 b = some o → ¬ F.T b → H b = some o) ∧ (∀ b, F.T b → CAt F H b n) ∧ H D = some (.lst ws) ∧ DzAll K (vis F (fun b => hd b ∨ b = D) H) ws acc ∧ I i acc n
theorem wipeD_at {v : List AV} {j : Nat} : ∀ {vs : List Nat}, j ∉ vs → (wipeD v vs)[j]? = v[j]?
  | [], _ => rfl
  | i :: is, h => by
    unfold wipeD
    rw [List.getElem?_set_ne (fun z => h (by rw [z]; exact List.mem_cons_self)), wipeD_at fun z => h (List.mem_cons_of_mem _ z)]
theorem lc_run {wi : TI} {g : TG} {tt : TT} {te : TE} {is : List Nat} {wI : TDi} {wg : TDg} {wt : TDt} {we : TD} {vs : List Nat} [pI : PuI K E wi wI] [pg : PuG K g is wg] [pt : PuT K E tt wt] [pe : PuE K E te we] {F : Frm K} {hd : Addr → Prop} {σ : L2.St} {H : Hp} {δ : DS} {Q : VK} (hE : F.E = E) (r : Rep K F hd σ H δ)
    (q : lLc is wI wg wt we vs F.X δ (OutN K F hd σ H Q)) : tLc wi g tt te vs σ H Q := by
  refine pI.run hE r (pI.mono (fun l its δ1 q J hd1 H1 k1 r1 wk => ?_) q)
  obtain ⟨ok, I, q, hst, hfin⟩ := q
  unfold lcOk at ok
  rw [Bool.and_eq_true, List.all_eq_true, List.all_eq_true] at ok
  have his : ∀ i ∈ is, i ∈ vs := fun i hi => by simpa using ok.1 i hi
  have nown : ∀ i ∈ vs, ∀ x, δ1.v[i]? = some x → hidV x = true → False := fun i hi x e hx => by
    have := ok.2 i hi
    rw [e] at this
    cases x <;> simp [isOwn, hidV] at this hx
  obtain ⟨msub, rm⟩ := r1.min
  refine lcK wk (Plc K F (hdM F σ δ1.v) H1 I) (fun D nD => ⟨δ1.n, [], [], fun b o h _ => by rw [upd_ne (ne_of_none h nD)]; exact h, fun b t => (r1.cat b t).new nD, upd_same, .nil, q⟩) (fun D i H' hi h => ?_) (fun D i x Ha Hb nD hi hp hy => ?_) (fun D Hg nD hp => ?_)
  · obtain ⟨n, acc, ws, h1, h2, h3, h4, h5⟩ := h
    exact ⟨fun b o e => by obtain ⟨t, e⟩ := nt_some e; exact h1 b o e t, fun b t => (h2 b t).some⟩
  · obtain ⟨n, acc, ws, h1, h2, h3, h4, h5⟩ := hp
    obtain ⟨sab, d, hd', el⟩ := hy
    have h5 := hst i d acc n hd' h5
    have nDT : ¬ F.T D := (r1.fresh nD).2.2
    have eDb : Hb D = some (.lst ws) := sab _ _ h3
    have gB : Go F hd1 H1 (fun b => hdM F σ δ1.v b ∨ b = D) Hb := ⟨fun b o e t _ => sab _ _ (h1 b o e t), fun b z => z.elim (fun z => .inl (msub b z)) fun z => .inr (by rw [z]; exact nD)⟩
    have rI : Rep K (F.more D) (fun b => hdM F σ δ1.v b ∨ b = D) σ Hb ⟨δ1.v, n⟩ := rm.inner nD (fun b o e t => sab _ _ (h1 b o e t)) (by rw [eDb]; rfl) (fun b t => (h2 b t).same sab)
    have h4b : DzAll K (vis F (fun b => hdM F σ δ1.v b ∨ b = D) Hb) ws acc := by
      refine DzAll.same (fun b o e => ?_) h4
      obtain ⟨c, e | e⟩ := vis_some e
      · exact vis_old c e.2
      · rw [vis_new c e.1]; exact sab _ _ e.2
    have elv : RV K (F.more D) (fun b => hdM F σ δ1.v b ∨ b = D) Hb l x d := by
      have := el.rv r1.bs gB
      cases l <;> exact this
    refine pg.run (rI.wipe vs) elv (pg.mono (fun δ2 q σ2 r2 l2 s2 v2 => ?_) h5)
    refine ⟨wipe_eq his (by rw [l2, wipe_length]) s2, pt.run (F := F.more D) hE r2 (pt.mono (fun b δ3 ⟨ev, q⟩ hd3 H3 k3 r3 => ?_) q)⟩
    have stepD : ∀ {hdx : Addr → Prop} {Hx : Hp} {δx : DS} (kx : Kp (F.more D) (fun b => hdM F σ δ1.v b ∨ b = D) Hb hdx Hx) (rx : Rep K (F.more D) hdx σ2 Hx δx), Hx D = some (.lst ws) ∧ DzAll K (vis F (fun b => hdM F σ δ1.v b ∨ b = D) Hx) ws acc ∧ (∀ b o, H1 b = some o → ¬ F.T b → Hx b = some o) ∧ ∀ b, F.T b → CAt F Hx b δx.n := fun {hdx Hx δx} kx rx => by
      refine ⟨kx.kp _ _ eDb nDT, DzAll.same (fun b o e => ?_) h4b, fun b o e t => kx.kp _ _ (sab _ _ (h1 b o e t)) t, rx.cat⟩
      have t := vis_not_t e
      obtain ⟨c, e | e⟩ := vis_some e
      · exact vis_old c e.2
      · rw [vis_new c e.1]; exact kx.kp _ _ e.2 t
    cases b with
    | false =>
      obtain ⟨a1, a2, a3, a4⟩ := stepD k3 r3
      exact ⟨δ3.n, acc, ws, a3, a4, a1, a2, q⟩
    | true =>
      refine pe.run (F := F.more D) hE r3 (pe.mono (fun y δ4 ⟨ev4, la, q⟩ v hd4 H4 k4 r4 dv => ?_) q)
      have k34 := k3.trans k4
      obtain ⟨a1, a2, a3, a4⟩ := stepD k34 r4
      refine ⟨ws, a1, by rw [DzAll.len h4]; exact la, δ4.n, acc ++ [y], ws ++ [v], fun b o e t => ?_, fun b t => ?_, upd_same, ?_, q⟩
      · rw [upd_ne (ne_of_none e nD)]; exact a3 b o e t
      · have bD : b ≠ D := fun z => nDT (by rw [← z]; exact t)
        exact CAt.lst (a4 b t) a1 bD
      · have sv : Same (vis F (fun b => hdM F σ δ1.v b ∨ b = D) H4) (vis F (fun b => hdM F σ δ1.v b ∨ b = D) (upd H4 D (.lst (ws ++ [v])))) := fun b o e => by
          obtain ⟨c, e | e⟩ := vis_some e
          · exact vis_old c e.2
          · rw [vis_new c e.1, upd_ne (fun z => c (.inr z))]; exact e.2
        refine DzAll.snoc (DzAll.same sv a2) (Dz.same sv (Dz.same (fun b o e => ?_) dv))
        have e : vis F hd4 H4 b = some o := e
        obtain ⟨c, e2⟩ := vis_some e
        have c' : ¬ (hdM F σ δ1.v b ∨ b = D) := fun z => c (by
          rcases z with (⟨i, ds, z1, z2⟩ | z) | z
          · have iv : i ∉ vs := fun h => nown i h ds z1.1 z1.2
            have ii : i ∉ is := fun h => iv (his i h)
            have e4 : δ4.v[i]? = some ds := by rw [ev4, v2 i ii]; show (wipeD δ1.v vs)[i]? = _; rw [wipeD_at iv]; exact z1.1
            exact (r4.hid ⟨e4, z1.2⟩ (by rw [s2 i ii, wipe_at, if_neg iv]; exact z2)).1
          · exact r4.nH b (.inl z)
          · exact r4.nH b (.inr z))
        rcases e2 with e2 | e2
        · exact vis_old c' e2.2
        · rw [vis_new c' e2.1]; exact e2.2
  · obtain ⟨n, acc, ws, h1, h2, h3, h4, h5⟩ := hp
    have h5 := hfin acc n h5
    have f := r1.fresh nD
    have rk := rm.kp h1 h2
    refine h5 D ws (hdM F σ δ1.v) Hg (k1.trans ⟨h1, msub⟩) rk (rm.grow h1 (fun _ z => .inl z) (fun b z => z.elim .inl fun z => .inr (by rw [z]; exact nD)) (fun b z => ?_) h2) (fun z => f.1 (msub D z)) ⟨f.2.1, k1.back f.2.2 nD⟩ h3 h4
    rcases z with z | z
    · exact rk.bs.hs b z
    · rw [z, h3]; rfl
def dLc (is : List Nat) (wI : TDi) (wg : TDg) (wt : TDt) (we : TD) (vs : List Nat) : TD := fun X δ Q => wI X δ fun l its δ1 => lcOk is vs δ1.v = true ∧ lcGo (lcStep X l δ1.v vs wg wt we) its [] δ1.n fun acc n => Q (.list acc) ⟨δ1.v, n⟩
instance {wi : TI} {g : TG} {tt : TT} {te : TE} {is : List Nat} {wI : TDi} {wg : TDg} {wt : TDt} {we : TD} {vs : List Nat} [pI : PuI K E wi wI] [pg : PuG K g is wg] [pt : PuT K E tt wt] [pe : PuE K E te we] : PuE K E (tLc wi g tt te vs) (dLc is wI wg wt we vs) where
  mono h := pI.mono fun _ _ _ ⟨e, q⟩ => ⟨e, lcGo_mono _ _ _ (fun _ _ q => h _ _ q) q⟩
  run hE r q := lc_run hE r (pI.mono (fun _ _ _ ⟨e, q⟩ => ⟨e, lcGo_mono _ _ _ (fun _ _ q => Out.n q) q⟩) q)
instance {wi : TI} {g : TG} {tt : TT} {te : TE} {is : List Nat} {wI : TDi} {wg : TDg} {wt : TDt} {we : TD} {vs : List Nat} [pI : PuI K E wi wI] [pg : PuG K g is wg] [pt : PuT K E tt wt] [pe : PuE K E te we] : PuL K E (tLc wi g tt te vs) (lLc is wI wg wt we vs) where
  mono h := pI.mono fun _ _ _ ⟨e, q⟩ => ⟨e, lcGo_mono _ _ _ (fun _ _ q => h _ _ q) q⟩
  run hE r q := lc_run hE r (pI.mono (fun _ _ _ ⟨e, q⟩ => ⟨e, lcGo_mono _ _ _ (fun _ _ q => OutL.n q) q⟩) q)
/-- a list that is made anew -/
class PuN (K : PySem.W.Frag) (E : XK) (t : TE) (w : outParam TDa) : Prop where
  mono : ∀ {X : XP} {δ : DS} {Q Q' : List PyData → DS → Prop}, (∀ d δ', Q d δ' → Q' d δ') → w X δ Q → w X δ Q'
  run : ∀ {F : Frm K} {hd : Addr → Prop} {σ : L2.St} {H : Hp} {δ : DS} {Q : VK}, F.E = E → Rep K F hd σ H δ → w F.X δ (OutN K F hd σ H Q) → t σ H Q
instance {wi : TI} {g : TG} {tt : TT} {te : TE} {is : List Nat} {wI : TDi} {wg : TDg} {wt : TDt} {we : TD} {vs : List Nat} [pI : PuI K E wi wI] [pg : PuG K g is wg] [pt : PuT K E tt wt] [pe : PuE K E te we] : PuN K E (tLc wi g tt te vs) (lLc is wI wg wt we vs) where
  mono h := pI.mono fun _ _ _ ⟨e, q⟩ => ⟨e, lcGo_mono _ _ _ (fun _ _ q => h _ _ q) q⟩
  run hE r q := lc_run hE r q
instance {t : TA} {w : TDa} [p : PuV K E t w] : PuN K E (tLst t) (lLst w) where
  mono h := p.mono fun _ _ q => ⟨q.1, h _ _ q.2⟩
  run hE r q := p.run hE r (p.mono (fun ds δ1 q vs hd1 H1 k1 r1 d1 => ⟨by rw [DzAll.len d1]; exact q.1, fun p np => newN r1 np d1 (q.2.kp k1)⟩) q)
instance {t : TE} {tl th : TO} {w : TRd} {wl wh : TDo} [p : PuR K E t w] [pl : PuO K E tl wl] [ph : PuO K E th wh] : PuN K E (tSl (rSlL K) t tl th) (lSl w wl wh) where
  mono h := p.mono fun _ _ _ => pl.mono fun _ _ => ph.mono fun _ _ ⟨ds, e, c, q⟩ => ⟨ds, e, c, h _ _ q⟩
  run hE r q := sl3 (t := t) (tl := tl) (th := th) hE r q fun l x lo hi δ1 v hd1 H1 k1 r1 d1 ⟨ds, e, c, q⟩ => by
    subst e
    obtain ⟨a, vs, rfl, hs, ha⟩ := d1.seq r1.bs (.inl rfl)
    rcases hs with hs | hs
    · exact ⟨a, vs, rfl, nt_in.seq hs.2, fun p np => newN r1 np (DzAll.upU (dp_cut ha) c) (q.kp k1)⟩
    · cases hs.1
instance {t : TE} {w : TRd} [p : PuR K E t w] : PuN K E (tCB (rListOf K) (tCons t tNil)) (lList w) where
  mono h := p.mono fun _ _ _ ⟨ds, i, c, q⟩ => ⟨ds, i, c, h _ _ q⟩
  run hE r q := un1 (t := t) hE r q fun l x δ1 v hd1 H1 k1 r1 d1 ⟨ds, i, c, q⟩ => by
    obtain ⟨a, vs, rfl, hs, ha⟩ := d1.seq r1.bs i
    exact ⟨a, vs, rfl, hs.imp (fun h => nt_in.seq h.2) (fun h => Same.seqT nt_in h.2), fun p np => newN r1 np (DzAll.upU ha c) (q.kp k1)⟩
instance {ta tb : TE} {wa wb : TDa} [pa : PuL K E ta wa] [pb : PuL K E tb wb] : PuN K E (tOp rCat ta tb) (lCat wa wb) where
  mono h := pa.mono fun _ _ => pb.mono fun _ _ q => ⟨q.1, h _ _ q.2⟩
  run {F hd σ H δ Q} hE r q := pa.run hE r (pa.mono (fun ds δ1 q p vs hd1 H1 k1 r1 h1 t1 d1 => pb.run hE r1 (pb.mono (fun es δ2 q p2 us hd2 H2 k2 r2 h2 t2 d2 => by
    have d1' := DzAll.same (vis_go r1.bs k2.go) d1
    exact ⟨p, p2, vs, us, rfl, rfl, k2.kp _ _ h1 t1, h2, by rw [DzAll.len d1, DzAll.len d2]; exact q.1, fun p np => newN r2 np (dpAll_app d1' d2) (q.2.kp (k1.trans k2))⟩) q)) q)
/-! ### statements -/
structure DEnds where
  nx : DS → Prop
  rt : PyData → DS → Prop
  bk : DS → Prop := fun _ => False
  ct : DS → Prop := fun _ => False
structure DEnds.Le (P P' : DEnds) : Prop where
  nx : ∀ δ, P.nx δ → P'.nx δ
  rt : ∀ d δ, P.rt d δ → P'.rt d δ
  bk : ∀ δ, P.bk δ → P'.bk δ
  ct : ∀ δ, P.ct δ → P'.ct δ
theorem DEnds.Le.refl (P : DEnds) : P.Le P := ⟨fun _ h => h, fun _ _ h => h, fun _ h => h, fun _ h => h⟩
abbrev TDs := XP → DEnds → DS → Prop
/-- the ends as they are wished -/
structure EOk (K : PySem.W.Frag) (F : Frm K) (hd : Addr → Prop) (H : Hp) (P : DEnds) (D : L2.Ends) : Prop where
  nx : ∀ hd' σ' H' δ', Go F hd H hd' H' → Rep K F hd' σ' H' δ' → P.nx δ' → D.nx σ' H'
  rt : ∀ v d hd' σ' H' δ', Go F hd H hd' H' → Rep K F hd' σ' H' δ' → Dz K (vis F hd' H') v d → P.rt d δ' → D.rt v H'
  bk : ∀ hd' σ' H' δ', Go F hd H hd' H' → Rep K F hd' σ' H' δ' → P.bk δ' → D.bk σ' H'
  ct : ∀ hd' σ' H' δ', Go F hd H hd' H' → Rep K F hd' σ' H' δ' → P.ct δ' → D.ct σ' H'
theorem EOk.go {F : Frm K} {hd hd1 : Addr → Prop} {σ1 : L2.St} {H H1 : Hp} {δ1 : DS} {P : DEnds} {D : L2.Ends} (r1 : Rep K F hd1 σ1 H1 δ1) (g : Go F hd H hd1 H1) (e : EOk K F hd H P D) : EOk K F hd1 H1 P D :=
  ⟨fun hd' σ' H' δ' g' r' q => e.nx hd' σ' H' δ' (g.trans r1.bs r'.bs g') r' q, fun v d hd' σ' H' δ' g' r' dv q => e.rt v d hd' σ' H' δ' (g.trans r1.bs r'.bs g') r' dv q, fun hd' σ' H' δ' g' r' q => e.bk hd' σ' H' δ' (g.trans r1.bs r'.bs g') r' q, fun hd' σ' H' δ' g' r' q => e.ct hd' σ' H' δ' (g.trans r1.bs r'.bs g') r' q⟩
class PuS (K : PySem.W.Frag) (E : XK) (t : TS) (w : outParam TDs) : Prop where
  mono : ∀ {X : XP} {δ : DS} {P P' : DEnds}, P.Le P' → w X P δ → w X P' δ
  run : ∀ {F : Frm K} {hd : Addr → Prop} {σ : L2.St} {H : Hp} {δ : DS} {P : DEnds} {D : L2.Ends}, F.E = E → Rep K F hd σ H δ → EOk K F hd H P D → w F.X P δ → t D σ H
def sNext : TDs := fun _ P δ => P.nx δ
instance : PuS K E tNext sNext where
  mono h := h.nx _
  run _ r e q := e.nx _ _ _ _ .refl r q
def sBreak : TDs := fun _ P δ => P.bk δ
instance : PuS K E tBreak sBreak where
  mono h := h.bk _
  run _ r e q := e.bk _ _ _ _ .refl r q
def sCont : TDs := fun _ P δ => P.ct δ
instance : PuS K E tCont sCont where
  mono h := h.ct _
  run _ r e q := e.ct _ _ _ _ .refl r q
def DEnds.thn (P : DEnds) (k : DEnds → DS → Prop) : DEnds := { P with nx := fun δ' => k P δ' }
theorem thn_nx (P : DEnds) (k : DEnds → DS → Prop) (δ : DS) : (P.thn k).nx δ = k P δ := rfl
theorem thn_rt (P : DEnds) (k : DEnds → DS → Prop) (d : PyData) (δ : DS) : (P.thn k).rt d δ = P.rt d δ := rfl
theorem thn_bk (P : DEnds) (k : DEnds → DS → Prop) (δ : DS) : (P.thn k).bk δ = P.bk δ := rfl
theorem thn_ct (P : DEnds) (k : DEnds → DS → Prop) (δ : DS) : (P.thn k).ct δ = P.ct δ := rfl
def sSeq (w u : TDs) : TDs := fun X P δ => w X (P.thn (u X)) δ
instance {t u : TS} {w x : TDs} [p : PuS K E t w] [q : PuS K E u x] : PuS K E (tSeq t u) (sSeq w x) where
  mono h := p.mono ⟨fun _ z => q.mono h z, h.rt, h.bk, h.ct⟩
  run {F hd σ H δ P D} hE r e z := p.run (P := P.thn (x F.X)) (D := { D with nx := u D }) hE r ⟨fun hd' σ' H' δ' g' r' z => q.run hE r' (e.go r' g') z, e.rt, e.bk, e.ct⟩ z
def sRet (w : TD) : TDs := fun X P δ => w X δ P.rt
instance {t : TE} {w : TD} [p : PuE K E t w] : PuS K E (tRet t) (sRet w) where
  mono h := p.mono h.rt
  run hE r e q := p.run hE r (p.mono (fun d δ1 q v hd1 H1 k1 r1 d1 => e.rt v d hd1 _ H1 δ1 k1.go r1 d1 q) q)
def sRetN : TDs := fun _ P δ => P.rt .none δ
instance : PuS K E tRetN sRetN where
  mono h := h.rt _ _
  run _ r e q := e.rt _ _ _ _ _ _ .refl r .non q
def sDrop (w : TD) : TDs := fun X P δ => w X δ fun _ δ1 => P.nx δ1
instance (priority := 100) {t : TE} {w : TD} [p : PuE K E t w] : PuS K E (tDrop t) (sDrop w) where
  mono h := p.mono fun _ _ q => h.nx _ q
  run hE r e q := p.run hE r (p.mono (fun d δ1 q v hd1 H1 k1 r1 d1 => e.nx hd1 _ H1 δ1 k1.go r1 q) q)
def sIf (wc : TDt) (w u : TDs) : TDs := fun X P δ => wc X δ fun b δ1 => if b = true then w X P δ1 else u X P δ1
instance {tc : TT} {t u : TS} {wc : TDt} {w x : TDs} [pc : PuT K E tc wc] [p : PuS K E t w] [q : PuS K E u x] : PuS K E (tIfS tc t u) (sIf wc w x) where
  mono h := pc.mono fun b _ z => by
    cases b with
    | true => exact p.mono h z
    | false => exact q.mono h z
  run {F hd σ H δ P D} hE r e z := pc.run hE r (pc.mono (fun b δ1 z hd1 H1 k1 r1 => by
    cases b with
    | true => exact p.run hE r1 (e.go r1 k1.go) z
    | false => exact q.run hE r1 (e.go r1 k1.go) z) z)
/-- name = value: data -/
def sAsg (w : TD) (wg : TDg) : TDs := fun X P δ => w X δ fun d δ1 => wg .V d δ1 fun δ2 => P.nx δ2
instance (priority := 100) {t : TE} {g : TG} {is : List Nat} {w : TD} {wg : TDg} [p : PuE K E t w] [pg : PuG K g is wg] : PuS K E (tAsg t g) (sAsg w wg) where
  mono h := p.mono fun _ _ q => pg.mono (fun _ q => h.nx _ q) q
  run {F hd σ H δ P D} hE r e q := p.run hE r (p.mono (fun d δ1 q v hd1 H1 k1 r1 d1 => pg.run (l := .V) r1 d1 (pg.mono (fun δ2 q σ2 r2 _ _ _ => e.nx hd1 σ2 H1 δ2 k1.go r2 q) q)) q)
/-- name = a new list: it is one's own -/
def sOwn (w : TDa) (i : Nat) : TDs := fun X P δ => w X δ fun ds δ1 => i < δ1.v.length ∧ P.nx ⟨δ1.v.set i (.own ds), δ1.n⟩
theorem Rep.setOwn {F : Frm K} {hd : Addr → Prop} {σ : L2.St} {H : Hp} {δ : DS} {p : Addr} {vs : List V} {ds : List PyData} {i : Nat} (r0 : Rep K F hd σ H δ) (r : Rep K F (fun b => hd b ∨ b = p) σ H δ) (np : ¬ hd p) (h : H p = some (.lst vs)) (d : DzAll K (vis F (fun b => hd b ∨ b = p) H) vs ds) :
    Rep K F (fun b => hd b ∨ b = p) (σ.set i (some (.ref p))) H ⟨δ.v.set i (.own ds), δ.n⟩ := by
  have nN : ¬ F.N p := fun z => np (r0.nH p z)
  have g := r.drop (i := i) (o := some (.ref p))
  have ownp : ∀ j es, δ.v[j]? = some (AV.own es) → σ[j]? ≠ some (some (V.ref p)) := fun j es e1 e2 => by
    obtain ⟨a, vs, g1, g2, _⟩ := r0.vars j _ e1
    rw [e2] at g1; cases g1
    exact np g2.1
  refine ⟨g.bs, by simp [r.len], fun j b e => ?_, g.cat, g.nH, fun j k ds' es c e1 e2 e3 e4 => ?_⟩
  · by_cases ij : i = j
    · subst ij
      by_cases il : i < δ.v.length
      · rw [List.getElem?_set_self il] at e
        cases e
        exact ⟨p, vs, List.getElem?_set_self (by rw [r.len]; exact il), ⟨.inr rfl, nN⟩, h, d⟩
      · rw [List.getElem?_eq_none (by simp; omega)] at e; cases e
    · rw [List.getElem?_set_ne ij] at e
      exact g.vars j b (by show (δ.v.set i .no)[j]? = _; rw [List.getElem?_set_ne ij]; exact e)
  · by_cases ij : i = j
    · by_cases ik : i = k
      · rw [← ij, ik]
      · exfalso
        rw [List.getElem?_set_ne ik] at e2 e4
        subst ij
        by_cases il : i < σ.length
        · rw [List.getElem?_set_self il] at e3; cases e3
          exact ownp k es e2 e4
        · rw [List.getElem?_eq_none (by simp; omega)] at e3; cases e3
    · by_cases ik : i = k
      · exfalso
        rw [List.getElem?_set_ne ij] at e1 e3
        subst ik
        by_cases il : i < σ.length
        · rw [List.getElem?_set_self il] at e4; cases e4
          exact ownp j ds' e1 e3
        · rw [List.getElem?_eq_none (by simp; omega)] at e4; cases e4
      · rw [List.getElem?_set_ne ij] at e1 e3
        rw [List.getElem?_set_ne ik] at e2 e4
        exact r.sep j k ds' es c e1 e2 e3 e4
instance {t : TE} {i : Nat} {w : TDa} [p : PuN K E t w] : PuS K E (tAsg t (gName i)) (sOwn w i) where
  mono h := p.mono fun _ _ q => ⟨q.1, h.nx _ q.2⟩
  run {F hd σ H δ P D} hE r e q := p.run hE r (p.mono (fun ds δ1 q p vs hd1 H1 k1 r1 r2 np n0 h1 d1 => by
    have B := r2.bs
    refine e.nx _ _ _ _ ?_ (r1.setOwn r2 np h1 d1) q.2
    refine ⟨fun b o h t _ => k1.kp b o h t, fun b z => ?_⟩
    rcases z with z | z
    · exact .inl (k1.less b z)
    · right
      rw [z]; exact n0.2) q)
end
end Rp

/-! Lists that grow, loops, whole defs. -/
namespace Rp
open PySem PySem.Spec PyProof.Rows L2
section
variable {K : PySem.W.Frag} {E : XK}
theorem vis_hid {F : Frm K} {hd : Addr → Prop} {H : Hp} {a : Addr} {o : HO} (h : hd a) : vis F hd (upd H a o) = vis F hd H := by
  funext b
  unfold vis
  by_cases c : hd b
  · rw [if_pos c, if_pos c]
  · rw [if_neg c, if_neg c]
    split
    · rfl
    · rw [upd_ne (fun z => c (by rw [z]; exact h))]
theorem rd_hid {F : Frm K} {hd : Addr → Prop} {H : Hp} {a : Addr} {o : HO} (h : hd a) : rdH F hd (upd H a o) = rdH F hd H := by
  funext b
  unfold rdH
  by_cases c : hd b ∨ F.T b
  · rw [if_pos c, if_pos c]
  · rw [if_neg c, if_neg c, upd_ne (fun z => c (.inl (by rw [z]; exact h)))]
/-- one's own list is changed -/
theorem Rep.store {F : Frm K} {hd : Addr → Prop} {σ : L2.St} {H : Hp} {δ : DS} {i : Nat} {ds es : List PyData} {a : Addr} {vs ws : List V} (r : Rep K F hd σ H δ) (e : δ.v[i]? = some (AV.own ds)) (ea : σ[i]? = some (some (V.ref a))) (hw : DzAll K (vis F hd H) ws es) :
    Go F hd H hd (upd H a (.lst ws)) ∧ Rep K F hd σ (upd H a (.lst ws)) ⟨δ.v.set i (.own es), δ.n⟩ := by
  obtain ⟨a', vs', g1, g2, g3, g4⟩ := r.vars i _ e
  rw [ea] at g1; cases g1
  have nt := r.bs.not_t g2.1
  have il := (List.getElem?_eq_some_iff.mp e).1
  have ne : ∀ b, ¬ hd b → b ≠ a := fun b c z => c (by rw [z]; exact g2.1)
  refine ⟨⟨fun b o h t c => by rw [upd_ne (ne b c)]; exact h, fun _ z => .inl z⟩, ⟨fun b o h t => ?_, fun b t => ?_, r.bs.hn, fun b z => ?_⟩, by simp [r.len], fun j b ej => ?_, fun b t => ?_, r.nH, fun j k ds' es' c e1 e2 e3 e4 => ?_⟩
  · rw [upd_ne (fun z => by rw [z, r.bs.hn a g2.1] at h; cases h)]; exact r.bs.ev b o h t
  · rw [upd_ne (fun z => nt (by rw [← z]; exact t))]; exact r.bs.tp b t
  · by_cases z2 : b = a
    · rw [z2, upd_same]; rfl
    · rw [upd_ne z2]; exact r.bs.hs b z
  · by_cases ij : i = j
    · subst ij
      rw [List.getElem?_set_self il] at ej
      cases ej
      exact ⟨a, ws, ea, g2, upd_same, by rw [vis_hid g2.1]; exact hw⟩
    · rw [List.getElem?_set_ne ij] at ej
      have hh := r.vars j b ej
      cases b with
      | no => trivial
      | dat d => obtain ⟨v', h1, h2⟩ := hh; exact ⟨v', h1, by rw [vis_hid g2.1]; exact h2⟩
      | rd d => obtain ⟨v', h1, h2⟩ := hh; exact ⟨v', h1, by rw [rd_hid g2.1]; exact h2⟩
      | own ds' =>
        obtain ⟨a', vs', h1, h2, h3, h4⟩ := hh
        have ne' : a' ≠ a := fun z => by
          subst z
          exact ij (r.sep i j ds ds' a' e ej ea h1)
        exact ⟨a', vs', h1, h2, by rw [upd_ne ne']; exact h3, by rw [vis_hid g2.1]; exact h4⟩
      | tape => exact hh
      | obj o => obtain ⟨v', h1, h2⟩ := hh; exact ⟨v', h1, by rw [vis_hid g2.1]; exact h2⟩
      | down o =>
        obtain ⟨a', ho, h1, h2, h3, h4⟩ := hh
        have ne' : a' ≠ a := fun z => by
          subst z
          rw [g3] at h3; cases h3
          exact h4.not_lst
        exact ⟨a', ho, h1, h2, by rw [upd_ne ne']; exact h3, by rw [vis_hid g2.1]; exact h4⟩
  · exact (r.cat b t).lst g3 (fun z => nt (by rw [← z]; exact t))
  · have own : ∀ m ds', (δ.v.set i (.own es))[m]? = some (AV.own ds') → ∃ ds'', δ.v[m]? = some (AV.own ds'') := fun m ds' h => by
      by_cases im : i = m
      · subst im; exact ⟨ds, e⟩
      · rw [List.getElem?_set_ne im] at h; exact ⟨ds', h⟩
    obtain ⟨_, e1⟩ := own j ds' e1
    obtain ⟨_, e2⟩ := own k es' e2
    exact r.sep j k _ _ c e1 e2 e3 e4
/-- xs.append(e) -/
def sApp (i : Nat) (w : TD) : TDs := fun X P δ => isOwL δ.v[i]? = true ∧ w X δ fun d δ1 => ∃ ds, δ1.v[i]? = some (AV.own ds) ∧ ds.length < sizeLine ∧ P.nx ⟨δ1.v.set i (.own (ds ++ [d])), δ1.n⟩
instance {i : Nat} {t : TE} {w : TD} [p : PuE K E t w] : PuS K E (tDrop (tBM K "list" rAppend (tVar i) (tCons t tNil))) (sApp i w) where
  mono h := fun ⟨e, q⟩ => ⟨e, p.mono (fun _ _ ⟨ds, e, l, q⟩ => ⟨ds, e, l, h.nx _ q⟩) q⟩
  run {F hd σ H δ P D} hE r e := fun ⟨eo, q⟩ => by
    obtain ⟨ds0, e0⟩ : ∃ ds, δ.v[i]? = some (AV.own ds) := by
      cases h : δ.v[i]? with
      | none => rw [h] at eo; cases eo
      | some a =>
        cases a <;> first | exact ⟨_, rfl⟩ | (rw [h] at eo; cases eo)
    obtain ⟨a, vs, h1, h2, h3, h4⟩ := r.vars i _ e0
    refine ⟨_, h1, .inl ⟨rfl, vs, .inl (.inl h3)⟩, p.run hE r (p.mono (fun d δ1 ⟨ds, e1, l, q⟩ v hd1 H1 k1 r1 d1 => ?_) q)⟩
    obtain ⟨a', vs', g1, g2, g3, g4⟩ := r1.vars i _ e1
    rw [h1] at g1; cases g1
    obtain ⟨gg, rr⟩ := r1.store (vs := vs') e1 h1 (DzAll.snoc g4 d1)
    exact ⟨a, vs', v, rfl, rfl, g3, by rw [DzAll.len g4]; exact l, e.nx _ _ _ _ (k1.go.trans r1.bs rr.bs gg) rr q⟩
/-! ### for, while -/
def DEnds.loop (P : DEnds) (N : DS → Prop) : DEnds := { nx := N, rt := P.rt, bk := P.nx, ct := N }
theorem loop_le {P P' : DEnds} {N N' : DS → Prop} (h : P.Le P') (n : ∀ δ, N δ → N' δ) : (P.loop N).Le (P'.loop N') := ⟨n, h.rt, h.nx, n⟩
/-- one turn of a for -/
def forTurn (l : Lv) (wg : TDg) (wb : TDs) (X : XP) (P : DEnds) (N : DS → Prop) (x : PyData) (δ : DS) : Prop := wg l x δ fun δ2 => wb X (P.loop N) δ2
def sFor (wI : TDi) (wg : TDg) (wb : TDs) : TDs := fun X P δ => wI X δ fun l its δ1 => ∃ I : Nat → DS → Prop, I 0 δ1 ∧ (∀ (i : Nat) (x : PyData) δ', its[i]? = some x → I i δ' → forTurn l wg wb X P (I (i + 1)) x δ') ∧ ∀ δ', I its.length δ' → P.nx δ'
instance {wi : TI} {g : TG} {tb : TS} {is : List Nat} {wI : TDi} {wg : TDg} {wb : TDs} [pI : PuF K E wi wI] [pg : PuG K g is wg] [pb : PuS K E tb wb] : PuS K E (tFor wi g tb) (sFor wI wg wb) where
  mono {X δ P P'} h := pI.mono fun l its δ1 ⟨I, a, b, c⟩ => ⟨I, a, fun i x δ' e z => pg.mono (fun _ q => pb.mono (loop_le h fun _ z => z) q) (b i x δ' e z), fun δ' z => h.nx _ (c δ' z)⟩
  run {F hd σ H δ P D} hE r e q := pI.run hE r (pI.mono (fun l its δ1 ⟨I, i0, hst, hfin⟩ J hd1 H1 k1 r1 wk => by
    refine frK wk (fun i σ' H' => ∃ hd' δ', Rep K F hd' σ' H' δ' ∧ Go F hd1 H1 hd' H' ∧ I i δ') ⟨hd1, δ1, r1, .refl, i0⟩ (fun i σ' H' _ h => ?_) (fun i x σ' Ha Hb hi hp hy => ?_) (fun σ' H' h => ?_)
    · obtain ⟨hd', δ', r', g', _⟩ := h
      exact ⟨(rd_go g').trans (rd_nt.trans nt_in), r'.bs.tp⟩
    · obtain ⟨hd', δ', r', g', q⟩ := hp
      obtain ⟨sab, d, hd2, el⟩ := hy
      have q := hst i d δ' hd2 q
      have rb := r'.same sab
      have gb := g'.trans r'.bs rb.bs (Kp.of_same (hd := hd') sab).go
      refine pg.run rb (el.rv r1.bs gb) (pg.mono (fun δ2 q σ2 r2 _ _ _ => ?_) q)
      have eo := (e.go r1 k1.go).go r2 gb
      refine pb.run (P := P.loop _) hE r2 ⟨fun hd3 σ3 H3 δ3 g3 r3 q => ?_, eo.rt, fun hd3 σ3 H3 δ3 g3 r3 q => eo.nx _ _ _ _ g3 r3 q, fun hd3 σ3 H3 δ3 g3 r3 q => ?_⟩ q
      · exact ⟨hd3, δ3, r3, gb.trans r2.bs r3.bs g3, q⟩
      · exact ⟨hd3, δ3, r3, gb.trans r2.bs r3.bs g3, q⟩
    · obtain ⟨hd', δ', r', g', q⟩ := h
      exact e.nx _ _ _ _ (k1.go.trans r1.bs r'.bs g') r' (hfin _ q)) q)
def sWhile (wc : TDt) (wb : TDs) : TDs := fun X P δ => ∃ W : Nat → DS → Prop, (∃ m, W m δ) ∧ ∀ m δ, W m δ → wc X δ fun b δ1 => if b = true then wb X (P.loop fun δ' => ∃ m', m' < m ∧ W m' δ') δ1 else P.nx δ1
instance {tc : TT} {tb : TS} {wc : TDt} {wb : TDs} [pc : PuT K E tc wc] [pb : PuS K E tb wb] : PuS K E (tWhile tc tb) (sWhile wc wb) where
  mono h := fun ⟨W, w0, hw⟩ => ⟨W, w0, fun m δ w => pc.mono (fun b δ1 q => by
    cases b with
    | true => exact pb.mono (loop_le h fun _ z => z) q
    | false => exact h.nx _ q) (hw m δ w)⟩
  run {F hd σ H δ P D} hE r e := fun ⟨W, ⟨m0, w0⟩, hw⟩ => by
    refine ⟨fun m σ' H' => ∃ hd' δ', Rep K F hd' σ' H' δ' ∧ Go F hd H hd' H' ∧ W m δ', ⟨m0, hd, δ, r, .refl, w0⟩, ?_⟩
    rintro m σ1 H1 ⟨hd1, δ1, r1, g1, w1⟩
    refine pc.run hE r1 (pc.mono (fun b δ2 q hd2 H2 k2 r2 => ?_) (hw m δ1 w1))
    have g2 := g1.trans r1.bs r2.bs k2.go
    cases b with
    | true =>
      refine ⟨fun σ' H' => ∃ m', m' < m ∧ ∃ hd' δ', Rep K F hd' σ' H' δ' ∧ Go F hd H hd' H' ∧ W m' δ', fun σ' H' ⟨m', h1, h2⟩ => ⟨m', h1, h2⟩, ?_⟩
      have eo := e.go r2 g2
      refine pb.run (P := P.loop _) hE r2 ⟨fun hd3 σ3 H3 δ3 g3 r3 q => ?_, eo.rt, fun hd3 σ3 H3 δ3 g3 r3 q => eo.nx _ _ _ _ g3 r3 q, fun hd3 σ3 H3 δ3 g3 r3 q => ?_⟩ q
      · obtain ⟨m', h1, h2⟩ := q
        exact ⟨m', h1, hd3, δ3, r3, g2.trans r2.bs r3.bs g3, h2⟩
      · obtain ⟨m', h1, h2⟩ := q
        exact ⟨m', h1, hd3, δ3, r3, g2.trans r2.bs r3.bs g3, h2⟩
    | false => exact e.nx _ _ _ _ g2 r2 q
/-- a, b = x, y -/
def sPar (i j : Nat) (w : TDa) : TDs := fun X P δ => w X δ fun ds δ1 => ∃ x y, ds = [x, y] ∧ P.nx ⟨(δ1.v.set i (.dat x)).set j (.dat y), δ1.n⟩
instance (priority := 500) {i j : Nat} {t : TA} {w : TDa} [p : PuV K E t w] : PuS K E (tPar i j t) (sPar i j w) where
  mono h := p.mono fun _ _ ⟨x, y, e, q⟩ => ⟨x, y, e, h.nx _ q⟩
  run {F hd σ H δ P D} hE r e q := p.run hE r (p.mono (fun ds δ1 ⟨x, y, ed, q⟩ vs hd1 H1 k1 r1 d1 => by
    subst ed
    cases d1 with
    | @cons v _ _ _ a t =>
      cases t with
      | @cons u _ _ _ b t =>
        cases t
        exact ⟨v, u, rfl, e.nx _ _ _ _ k1.go ((r1.setDat a).setDat b) q⟩) q)
def sPar3 (i j l : Nat) (w : TDa) : TDs := fun X P δ => w X δ fun ds δ1 => ∃ x y z, ds = [x, y, z] ∧ P.nx ⟨((δ1.v.set i (.dat x)).set j (.dat y)).set l (.dat z), δ1.n⟩
instance {i j l : Nat} {t : TA} {w : TDa} [p : PuV K E t w] : PuS K E (tPar3 i j l t) (sPar3 i j l w) where
  mono h := p.mono fun _ _ ⟨x, y, z, e, q⟩ => ⟨x, y, z, e, h.nx _ q⟩
  run {F hd σ H δ P D} hE r e q := p.run hE r (p.mono (fun ds δ1 ⟨x, y, z, ed, q⟩ vs hd1 H1 k1 r1 d1 => by
    subst ed
    cases d1 with
    | @cons v _ _ _ a t =>
      cases t with
      | @cons u _ _ _ b t =>
        cases t with
        | @cons x _ _ _ c t =>
          cases t
          exact ⟨v, u, x, rfl, e.nx _ _ _ _ k1.go (((r1.setDat a).setDat b).setDat c) q⟩) q)
/-! ### whole defs -/
def initA : List Bool → List PyData → List AV
  | b :: bs, d :: ds => (if b then .dat d else if sc d then .dat d else .rd d) :: initA bs ds
  | _, _ => []
theorem initA_len {Hv Hn : Hp} : ∀ {al : List Bool} {vs : List V} {ds : List PyData}, ArgsV K Hv Hn al vs ds → (initA al ds).length = vs.length
  | [], [], [], _ => rfl
  | b :: bs, v :: vs, d :: ds, h => by simp [initA, initA_len h.2]
  | [], _ :: _, _, h => by simp [ArgsV] at h
  | [], [], _ :: _, h => by simp [ArgsV] at h
  | _ :: _, [], _, h => by simp [ArgsV] at h
  | _ :: _, _ :: _, [], h => by simp [ArgsV] at h
theorem initA_at {Hv Hn : Hp} : ∀ {al : List Bool} {vs : List V} {ds : List PyData} {i : Nat} {a : AV}, ArgsV K Hv Hn al vs ds → (initA al ds)[i]? = some a → ∃ v d, vs[i]? = some v ∧ ((a = .dat d ∧ Dz K Hv v d) ∨ (a = .rd d ∧ Dz K Hn v d))
  | [], [], [], _, _, _, e => by simp [initA] at e
  | b :: bs, v :: vs, d :: ds, 0, a, h, e => by
    simp [initA] at e
    subst e
    refine ⟨v, d, rfl, ?_⟩
    cases b with
    | true => exact .inl ⟨rfl, h.1⟩
    | false =>
      by_cases c : sc d = true
      · exact .inl ⟨by simp [c], sc_any h.1 c⟩
      · exact .inr ⟨by simp [c], h.1⟩
  | b :: bs, v :: vs, d :: ds, i + 1, a, h, e => by
    obtain ⟨v', d', e1, e2⟩ := initA_at (i := i) (a := a) h.2 (by simpa [initA] using e)
    exact ⟨v', d', by simpa using e1, e2⟩
  | [], _ :: _, _, _, _, h, _ => by simp [ArgsV] at h
  | [], [], _ :: _, _, _, h, _ => by simp [ArgsV] at h
  | _ :: _, [], _, _, _, h, _ => by simp [ArgsV] at h
  | _ :: _, _ :: _, [], _, _, h, _ => by simp [ArgsV] at h
/-- the state at the entry -/
theorem rep_start {F : Frm K} {H : Hp} {al : List Bool} {ws : List V} {ds : List PyData} {pre : List V} {pa : List AV} {k n : Nat} (hH : F.H0 = H) (lp : pre.length = pa.length) (hp : ∀ (i : Nat) (a : AV), pa[i]? = some a → ∃ v, pre[i]? = some v ∧ a = .tape ∧ ∃ t, v = V.ref t ∧ F.Tp t) (d : ArgsV K F.V0 (ntH F H) al ws ds) (nN : ∀ b, ¬ F.N b) (tp : ∀ b, F.T b → CAt F H b n) :
    Rep K F (fun _ => False) ((pre ++ ws).map some ++ List.replicate k none) H ⟨pa ++ (initA al ds ++ List.replicate k .no), n⟩ := by
  subst hH
  have B : Bs F (fun _ => False) F.H0 := ⟨fun b o h _ => h, fun b t => (tp b t).some, fun _ z => z.elim, fun _ z => z.elim⟩
  have il := initA_len d
  have cls : ∀ (i : Nat) (a : AV), (pa ++ (initA al ds ++ List.replicate k AV.no))[i]? = some a → (a = .no) ∨ (∃ t, ((pre ++ ws).map some ++ List.replicate k none)[i]? = some (some (V.ref t)) ∧ a = .tape ∧ F.Tp t) ∨ ∃ v d, ((pre ++ ws).map some ++ List.replicate k none)[i]? = some (some v) ∧ ((a = .dat d ∧ Dz K F.V0 v d) ∨ (a = .rd d ∧ Dz K (ntH F F.H0) v d)) := fun i a e => by
    by_cases c : i < pa.length
    · rw [List.getElem?_append_left c] at e
      obtain ⟨v, h1, h2, t, h3, h4⟩ := hp i a e
      refine .inr (.inl ⟨t, ?_, h2, h4⟩)
      rw [List.getElem?_append_left (by simp; omega), List.getElem?_map, List.getElem?_append_left (by omega), h1, h3]; rfl
    · rw [List.getElem?_append_right (by omega)] at e
      by_cases c2 : i - pa.length < (initA al ds).length
      · rw [List.getElem?_append_left c2] at e
        obtain ⟨v, d', h1, h2⟩ := initA_at d e
        refine .inr (.inr ⟨v, d', ?_, h2⟩)
        rw [List.getElem?_append_left (by simp; omega), List.getElem?_map, List.getElem?_append_right (by omega), lp, h1]; rfl
      · rw [List.getElem?_append_right (by omega)] at e
        rw [List.getElem?_replicate] at e
        split at e
        · cases e; exact .inl rfl
        · cases e
  refine ⟨B, by simp [il, lp], fun i a e => ?_, tp, fun b z => (nN b z).elim, fun i j ds' es c e1 _ _ _ => ?_⟩
  · rcases cls i a e with rfl | ⟨t, h1, rfl, h2⟩ | ⟨v, d', h1, ⟨rfl, h2⟩ | ⟨rfl, h2⟩⟩
    · trivial
    · exact ⟨t, h1, h2⟩
    · exact ⟨v, h1, Dz.same (fun b o h => vis_old (fun z => z) h) h2⟩
    · exact ⟨v, h1, Dz.same (fun b o h => by obtain ⟨t, h⟩ := nt_some h; rw [rd_at (fun z => z) t]; exact h) h2⟩
  · rcases cls i _ e1 with z | ⟨t, _, z, _⟩ | ⟨v, d', _, ⟨z, _⟩ | ⟨z, _⟩⟩ <;> cases z
theorem spF_len {al : List Bool} {s : WF} {vs : List V} {H : Hp} {Q : VK} {E : XK} (h : spF K al s vs H Q E) : vs.length = al.length := by
  obtain ⟨V0, ds, _, d, _⟩ := h
  exact (ArgsV.len d).1
theorem spT_len {al : List Bool} {s : WF} {vs : List V} {H : Hp} {Q : VK} {E : XK} (h : spT K al s vs H Q E) : vs.length = al.length + 1 := by
  obtain ⟨t, ws, V0, ds, n, rfl, _, _, _, d, _⟩ := h
  rw [List.length_cons, (ArgsV.len d).1]
theorem pu_fn {t : TS} {w : TDs} [p : PuS K E t w] {al : List Bool} {s : WF} {vs : List V} {H : Hp} {Q : VK} {N : List Str} (h : spF K al s vs H Q E)
    (hb : ∀ g ds, s.pre g ds 0 → w (s.err g) { nx := fun _ => s.post g .none 0, rt := fun d _ => s.post g d 0 } ⟨initA al ds ++ List.replicate (N.length - al.length) .no, 0⟩) : t { nx := fun _ H' => Q .non H', rt := Q } (L2.start N vs) H := by
  obtain ⟨V0, ds, sV, d, g, h1, h2, h3⟩ := h
  have hl := (ArgsV.len d).1
  let F : Frm K := { H0 := H, V0 := V0, T := fun _ => False, N := fun _ => False, E := E, X := s.err g, sub := sV, nt := fun _ z => z.elim, ta := fun _ z => z.elim, one := fun _ _ z => z.1.elim, ex := fun C d e v H' hx he hs _ hw dv => h3 C d hx e v H' he (fun b o hb => hs b o hb (fun z => z)) hw dv }
  have nt : ntH F H = H := by funext b; unfold ntH; exact if_neg (fun z => z)
  have r := rep_start (F := F) (pre := []) (pa := []) (k := N.length - al.length) (n := 0) rfl rfl (fun i a e => by simp at e) (by rw [nt]; exact d) (fun _ z => z) (fun _ z => z.elim)
  unfold L2.start
  rw [hl]
  refine p.run (F := F) rfl r ⟨fun hd' σ' H' δ' g' r' q => ?_, fun v d' hd' σ' H' δ' g' r' dv q => ?_, fun _ _ _ _ _ _ z => z, fun _ _ _ _ _ _ z => z⟩ (hb g ds h1)
  · exact h2 .none 0 q .non H' (fun b o e => r'.bs.ev b o e (fun z => z)) .non
  · exact h2 d' 0 q v H' (fun b o e => r'.bs.ev b o e (fun z => z)) (Dz.same vis_over dv)
theorem pu_fnT {t : TS} {w : TDs} [p : PuS K E t w] {al : List Bool} {s : WF} {vs : List V} {H : Hp} {Q : VK} {N : List Str} (h : spT K al s vs H Q E)
    (hb : ∀ g ds n, s.pre g ds n → w XP.no { nx := fun δ => s.post g .none δ.n, rt := fun d δ => s.post g d δ.n } ⟨.tape :: (initA al ds ++ List.replicate (N.length - (al.length + 1)) .no), n⟩) : t { nx := fun _ H' => Q .non H', rt := Q } (L2.start N vs) H := by
  obtain ⟨tp, ws, V0, ds, n, rfl, ht, sV, vt, d, g, h1, h2, h3⟩ := h
  have hl := (ArgsV.len d).1
  let F : Frm K := { H0 := H, V0 := V0, T := fun b => b = tp, N := fun _ => False, E := E, X := XP.no, sub := sV, nt := fun b z => by rw [z]; exact vt, ta := fun b z => by rw [z]; exact tape_some ht, one := fun a b z y => by rw [z.1, y.1], ex := fun _ _ _ _ _ z => z.elim }
  have nt : ntH F H = mask tp H := by
    funext b
    unfold ntH mask
    by_cases c : b = tp
    · rw [if_pos c, if_pos c]
    · rw [if_neg c]; exact (if_neg c).symm
  have r := rep_start (F := F) (pre := [.ref tp]) (pa := [.tape]) (k := N.length - (al.length + 1)) (n := n) rfl rfl (fun i a e => by
    rcases i with _ | i
    · simp at e; exact ⟨.ref tp, rfl, e.symm, tp, rfl, rfl, fun _ z => z⟩
    · simp at e) (by rw [nt]; exact d) (fun _ z => z) (fun b z => by rw [z]; exact ⟨fun _ z => False.elim z, fun _ => ht⟩)
  unfold L2.start
  rw [List.length_cons, hl]
  refine p.run (F := F) rfl r ⟨fun hd' σ' H' δ' g' r' q => ?_, fun v d' hd' σ' H' δ' g' r' dv q => ?_, fun _ _ _ _ _ _ z => z, fun _ _ _ _ _ _ z => z⟩ (hb g ds n h1)
  · exact h2 .none δ'.n q .non H' (fun b o z e => r'.bs.ev b o e z) (r'.tape tp ⟨rfl, fun _ z => z⟩) .non
  · exact h2 d' δ'.n q v H' (fun b o z e => r'.bs.ev b o e z) (r'.tape tp ⟨rfl, fun _ z => z⟩) (Dz.same vis_over dv)
end
end Rp

/-! Helps at the level without the heap. -/
namespace Rp
open PySem PySem.Spec PyProof.Rows L2
inductive Al {α : Type} (R : PyData → α → Prop) : List PyData → List α → Prop
  | nil : Al R [] []
  | cons {d : PyData} {x : α} {ds : List PyData} {l : List α} : R d x → Al R ds l → Al R (d :: ds) (x :: l)
section
variable {α : Type} {R : PyData → α → Prop}
theorem Al.len : ∀ {ds : List PyData} {l : List α}, Al R ds l → ds.length = l.length
  | _, _, .nil => rfl
  | _, _, .cons _ t => by simp [Al.len t]
theorem Al.get : ∀ {ds : List PyData} {l : List α} {i : Nat} {d : PyData}, Al R ds l → ds[i]? = some d → ∃ x, l[i]? = some x ∧ R d x
  | _, _, 0, _, .cons h _, e => by simp at e; subst e; exact ⟨_, rfl, h⟩
  | _, _, i + 1, _, .cons _ t, e => by
    obtain ⟨x, h1, h2⟩ := Al.get (i := i) t (by simpa using e)
    exact ⟨x, by simpa using h1, h2⟩
theorem al_map (e : α → PyData) : ∀ l : List α, Al (fun d x => d = e x) (l.map e) l
  | [] => .nil
  | x :: l => .cons rfl (al_map e l)
theorem al_flat {e : α → PyData} : ∀ {ds : List PyData} {l : List α}, ds.map flat = l.map e → Al (fun d x => flat d = e x) ds l
  | [], [], _ => .nil
  | [], _ :: _, h => by simp at h
  | _ :: _, [], h => by simp at h
  | d :: ds, x :: l, h => by simp at h; exact .cons h.1 (al_flat (by simpa using h.2))
theorem Al.imp {R' : PyData → α → Prop} (h : ∀ d x, R d x → R' d x) : ∀ {ds : List PyData} {l : List α}, Al R ds l → Al R' ds l
  | _, _, .nil => .nil
  | _, _, .cons a t => .cons (h _ _ a) (Al.imp h t)
variable {step : PyData → List PyData → Nat → (List PyData → Nat → Prop) → Prop} {its : List PyData} {l : List α} {n : Nat} {k : List PyData → Nat → Prop}
theorem lcGo_al (hr : Al R its l) (f : α → List PyData) (f1 : ∀ x, (f x).length ≤ 1) (hl : l.length ≤ sizeLine) (q : k (l.flatMap f) n)
    (hs : ∀ d x acc (k' : List PyData → Nat → Prop), x ∈ l → R d x → acc.length < sizeLine → k' (acc ++ f x) n → step d acc n k') : lcGo step its [] n k := by
  refine ⟨fun i acc m => m = n ∧ acc = (l.take i).flatMap f, ⟨rfl, by simp⟩, fun i d acc m e h => ?_, fun acc m h => ?_⟩
  · obtain ⟨rfl, rfl⟩ := h
    obtain ⟨x, h1, h2⟩ := hr.get e
    have il := (List.getElem?_eq_some_iff.mp h1).1
    have le : ∀ l : List α, (l.flatMap f).length ≤ l.length := fun l => by
      induction l with
      | nil => simp
      | cons a l ih => have := f1 a; simp only [List.flatMap_cons, List.length_append, List.length_cons]; omega
    have := le (l.take i)
    rw [List.length_take] at this
    refine hs d x _ _ (List.mem_of_getElem? h1) h2 (by omega) ⟨rfl, ?_⟩
    rw [take_at h1, List.flatMap_append]; simp
  · obtain ⟨rfl, rfl⟩ := h
    rw [hr.len, List.take_length]; exact q
theorem fm_map (g : α → PyData) (l : List α) : l.flatMap (fun x => [g x]) = l.map g := by
  induction l with
  | nil => rfl
  | cons a l ih => simp [ih]
theorem fm_filter (p : α → Bool) (g : α → PyData) (l : List α) : l.flatMap (fun x => if p x then [g x] else []) = (l.filter p).map g := by
  induction l with
  | nil => rfl
  | cons a l ih =>
    rw [List.flatMap_cons, ih, List.filter_cons]
    cases p a <;> simp
theorem lcGo_map (hr : Al R its l) (g : α → PyData) (hl : l.length ≤ sizeLine) (q : k (l.map g) n)
    (hs : ∀ d x acc (k' : List PyData → Nat → Prop), x ∈ l → R d x → acc.length < sizeLine → k' (acc ++ [g x]) n → step d acc n k') : lcGo step its [] n k :=
  lcGo_al hr (fun x => [g x]) (fun _ => Nat.le_refl _) hl (by rw [fm_map]; exact q) hs
theorem lcGo_filter (hr : Al R its l) (p : α → Bool) (g : α → PyData) (hl : l.length ≤ sizeLine) (q : k ((l.filter p).map g) n)
    (hs : ∀ d x acc (k' : List PyData → Nat → Prop), x ∈ l → R d x → acc.length < sizeLine → (p x = true → k' (acc ++ [g x]) n) → (p x = false → k' acc n) → step d acc n k') : lcGo step its [] n k :=
  lcGo_al hr (fun x => if p x then [g x] else []) (fun x => by split <;> simp) hl (by rw [fm_filter]; exact q) fun d x acc k' hx h la q => hs d x acc k' hx h la (fun z => by rw [if_pos z] at q; exact q) (fun z => by rw [if_neg (by rw [z]; decide)] at q; simpa using q)
end
theorem sc_n : sc .none = true := rfl
theorem sc_b (b : Bool) : sc (.bool b) = true := rfl
theorem sc_i (i : Int) : sc (.int i) = true := rfl
theorem sc_s (x : Str) : sc (.str x) = true := rfl
theorem sc_l (ds : List PyData) : sc (.list ds) = false := rfl
theorem sc_t (ds : List PyData) : sc (.tuple ds) = false := rfl
theorem scD_ss (x y : Str) : scD (.str x) (.str y) = true := rfl
theorem scD_ii (x y : Int) : scD (.int x) (.int y) = true := rfl
theorem scD_bb (x y : Bool) : scD (.bool x) (.bool y) = true := rfl
theorem eqS_ss (x y : Str) : eqS (.str x) (.str y) = decide (x = y) := rfl
theorem eqS_ii (x y : Int) : eqS (.int x) (.int y) = decide (x = y) := rfl
theorem eqS_bb (x y : Bool) : eqS (.bool x) (.bool y) = decide (x = y) := rfl
theorem small {n m : Nat} (h : n ≤ m) (hm : m ≤ 16000000 := by decide) : n ≤ sizeLine := by rw [sizeLine_eq]; omega
theorem inD_strs (f : Str) (zs : List Str) : inD (.str f) (zs.map .str) = decide (f ∈ zs) := by
  induction zs with
  | nil => simp [inD]
  | cons z r ih =>
    unfold inD at ih ⊢
    rw [List.map_cons, List.any_cons, ih]
    by_cases c : f = z
    · subst c; simp [eqF]
    · have c' : z ≠ f := fun e => c e.symm
      simp [eqF, c, c']
/-- what is flat as a tuple is a list or a tuple -/
theorem items_of {a : PyData} {es : List PyData} (h : flat a = .tuple es) : ∃ ds, Items a ds ∧ sc a = false ∧ ds.map flat = es := by
  cases a <;> simp [flat, flats_eq] at h
  · exact ⟨_, .inl rfl, rfl, h⟩
  · exact ⟨_, .inr rfl, rfl, h⟩
theorem flat_str {d : PyData} {x : Str} (h : flat d = .str x) : d = .str x := by
  cases d <;> simp [flat] at h
  rw [h]
theorem flat_strs_inv : ∀ {ds : List PyData} {z : List Str}, ds.map flat = z.map .str → ds = z.map .str
  | [], [], _ => rfl
  | [], _ :: _, h => by simp at h
  | _ :: _, [], h => by simp at h
  | d :: ds, x :: z, h => by
    simp at h
    have e := flat_strs_inv (ds := ds) (z := z) (by simpa using h.2)
    rw [flat_str h.1, e]; rfl
theorem tx_of {a : PyData} {z : List Str} (h : flat a = txD z) : Items a (z.map .str) ∧ sc a = false := by
  obtain ⟨ds, h1, h2, h3⟩ := items_of h
  rw [flat_strs_inv h3] at h1
  exact ⟨h1, h2⟩
end Rp
namespace Rp
open PySem PySem.Spec PyProof.Rows L2
theorem sc_strsM (zs : List Str) : ∀ x ∈ zs.map PyData.str, sc x = true := fun x h => by
  obtain ⟨z, _, rfl⟩ := List.mem_map.mp h
  rfl
section
variable {X : Cx}
theorem kk_len : CallR X (.builtin "len") (rLenA X.K) := call_len
theorem kk_len_seq : CallR X (.builtin "len") (rLenQ X.K) := call_len_seq
theorem kk_list_of : CallR X (.type "list") (rListOf X.K) := call_list_of
theorem kk_tuple_of : CallR X (.type "tuple") (rTupZ X.K) := call_tupleZ
theorem kk_min2 (hc : X.calm = true) : CallR X (.builtin "min") rMin2i := call_min2 hc
theorem kk_isN : OpR X (compareOp .Is) rIsN := op_isN
end
end Rp
namespace Rp
open PySem PySem.Spec PyProof.Rows L2
section
variable {K : PySem.W.Frag} {E : XK}
/-- behind a call that changes the tape alone -/
theorem Rep.taped {F : Frm K} {hd : Addr → Prop} {σ : L2.St} {H H2 : Hp} {δ : DS} {t : Addr} {n : Nat} (r : Rep K F hd σ H δ) (ht : F.Tp t) (x : Ext t H H2) (T2 : TapeAt H2 t n) : Kp F hd H hd H2 ∧ Rep K F hd σ H2 ⟨δ.v, n⟩ := by
  have kp : ∀ b o, H b = some o → ¬ F.T b → H2 b = some o := fun b o e nt => x b o (fun z => nt (by rw [z]; exact ht.1)) e
  refine ⟨⟨kp, fun _ z => z⟩, r.kp kp fun b hb => ?_⟩
  by_cases e : b = t
  · rw [e]; exact ⟨fun q z => absurd z (ht.2 q), fun _ => T2⟩
  · refine ⟨fun q z => TabS.lst ((r.cat b hb).1 q z) fun c o e2 no => x c o (fun z => ?_) e2, fun z => absurd (F.one b t ⟨hb, z⟩ ht) e⟩
    obtain ⟨u1, u2, u3, hx, _⟩ := r.tape t ht
    rw [z, hx] at e2
    exact no _ (Option.some.inj e2).symm
theorem Rep.seen2 {F : Frm K} {hd : Addr → Prop} {σ : L2.St} {H H2 : Hp} {δ : DS} (r : Rep K F hd σ H δ) {p : Addr} {o : HO} (h : H p = none) (h2 : H2 p = some o) : vis F hd H2 p = some o := by
  obtain ⟨f1, f2, f3⟩ := r.fresh h
  rw [vis_new f1 f2]; exact h2
/-- a target of two names -/
theorem gdSq2 {i j : Nat} {l : Lv} {d x y : PyData} {a b : AV} {δ : DS} {Q : DS → Prop} (h : Items d [x, y]) (ha : bnd l.ch x = some a) (hb : bnd l.ch y = some b) (q : Q ⟨(δ.v.set i a).set j b, δ.n⟩) : gdSq 2 (gdCons (gdName i) (gdCons (gdName j) gdNil)) l d δ Q :=
  ⟨[x, y], h, rfl, x, [y], rfl, a, ha, y, [], rfl, b, hb, rfl, q⟩
theorem gdTup2 {i j : Nat} {l : Lv} {x y : PyData} {a b : AV} {δ : DS} {Q : DS → Prop} (ha : bnd l.ch x = some a) (hb : bnd l.ch y = some b) (q : Q ⟨(δ.v.set i a).set j b, δ.n⟩) : gdTup 2 (gdCons (gdName i) (gdCons (gdName j) gdNil)) l (.tuple [x, y]) δ Q :=
  ⟨[x, y], rfl, rfl, x, [y], rfl, a, ha, y, [], rfl, b, hb, rfl, q⟩
theorem bnd_rd {y : PyData} (h : sc y = false) : bnd .R y = some (.rd y) := by simp [bnd, h]
def dDraw (i : Nat) (w : TRd) : TD := fun X δ Q => δ.v[i]? = some .tape ∧ w X δ fun _ x δ1 => ∃ m, x = .int m ∧ δ1.n ≤ 100000000 ∧ 0 < m ∧ m < 1000000 ∧ ∀ r, 0 ≤ r → r < m → Q (.int r) ⟨δ1.v, δ1.n + 1⟩
def dNames (i : Nat) (w : TRd) : TD := fun X δ Q => δ.v[i]? = some .tape ∧ w X δ fun _ x δ1 => ∃ m : Nat, x = .int m ∧ δ1.n ≤ 90000000 ∧ m ≤ 26 ∧ ∀ zs : List Str, zs.length = m → zs.Nodup → (∀ z ∈ zs, IsName z) → Q (.list (zs.map .str)) ⟨δ1.v, δ1.n + 20⟩
def dPartT (i : Nat) (wa wb : TRd) : TD := fun X δ Q => δ.v[i]? = some .tape ∧ wa X δ fun _ x δ1 => wb X δ1 fun _ y δ2 => ∃ (zs : List Str) (m : Nat), Items x (zs.map .str) ∧ y = .int m ∧ δ2.n ≤ 90000000 ∧ zs.length ≤ 1000 ∧ m ≤ zs.length ∧ ∀ ys rest : List Str, (ys ++ rest).Perm zs → ys.length = m → Q (.list (ys.map .str)) ⟨δ2.v, δ2.n + m⟩
theorem perm_app {ys rest : List V} {zs : List Str} (h : (ys ++ rest).Perm (zs.map V.str)) : ∃ y r : List Str, ys = y.map V.str ∧ rest = r.map V.str ∧ (y ++ r).Perm zs := by
  obtain ⟨l, e, p⟩ := perm_strs h
  refine ⟨l.take ys.length, l.drop ys.length, ?_, ?_, by rw [List.take_append_drop]; exact p⟩
  · rw [List.map_take, ← e]; simp
  · rw [List.map_drop, ← e]; simp
end
end Rp
namespace Rp
open PySem PySem.Spec PyProof.Rows L2
/-- one statement, then the others: by what holds between them -/
theorem sSeq_rule {w u : TDs} {X : XP} {P : DEnds} {δ : DS} (R : DS → Prop) (hw : ∀ B : DEnds, (∀ δ', R δ' → B.nx δ') → B.rt = P.rt → B.bk = P.bk → B.ct = P.ct → w X B δ) (hu : ∀ δ', R δ' → u X P δ') : sSeq w u X P δ :=
  hw (P.thn (u X)) hu rfl rfl rfl
theorem enD_inv {ds : List PyData} {i : Nat} {x : PyData} (h : (enD ds)[i]? = some x) : ∃ d, ds[i]? = some d ∧ x = .tuple [.int (i : Nat), d] := by
  simp [enD] at h
  obtain ⟨d, h1, h2⟩ := h
  exact ⟨d, h1, h2.symm⟩
theorem rgD_len (m : Nat) : (rgD m).length = m := by simp [rgD]
theorem rg_inv {m i : Nat} {x : PyData} (h : (rgD m)[i]? = some x) : x = .int (i : Nat) ∧ i < m := by
  unfold rgD at h
  rw [List.getElem?_map] at h
  obtain ⟨j, h1, h2⟩ := Option.map_eq_some_iff.mp h
  obtain ⟨h3, h4⟩ := List.getElem?_eq_some_iff.mp h1
  rw [List.getElem_range] at h4
  rw [List.length_range] at h3
  subst h4
  exact ⟨h2.symm, h3⟩
theorem strD_inv {zs : List Str} {i : Nat} {x : PyData} (h : (zs.map PyData.str)[i]? = some x) : ∃ z, zs[i]? = some z ∧ x = .str z := by
  rw [List.getElem?_map] at h
  obtain ⟨z, h1, h2⟩ := Option.map_eq_some_iff.mp h
  exact ⟨z, h1, h2.symm⟩
end Rp
namespace Rp
open PySem PySem.Spec PyProof.Rows L2
def dSame (m : Nat) (wa wb : TRd) : TD := fun X δ Q => wa X δ fun _ x δ1 => wb X δ1 fun _ y δ2 => x = y ∧ (∃ k, m = k + 1 ∧ Deep k x) ∧ Q (.bool true) δ2
def dCallK (s : WF) (w : TDa) : TD := fun X δ Q => w X δ fun ds δ1 => s.wp ds.reverse 0 (fun d _ => Q d δ1) (fun _ _ => False)
end Rp

/-! What the defs promise, as it is used by several laws. -/
namespace Rp
open PySem PySem.Spec PyProof.Rows L2
abbrev Gr := List (Str × List (List Str))
def okGr (G : Gr) : Prop := G.length ≤ 1000 ∧ ∀ p ∈ G, p.2.length ≤ 1000 ∧ ∀ z ∈ p.2, z.length ≤ 1000
def wf_in : WF := { G := List Str × List Str, pre := fun g ds _ => ∃ a b, ds = [a, b] ∧ flat a = txD g.1 ∧ flat b = txD g.2 ∧ g.1.length ≤ 1000, post := fun g d _ => d = .bool (inAll g.1 g.2) }
def wf_one : WF := { G := List (List Str) × List Str, pre := fun g ds _ => ∃ a b, ds = [a, b] ∧ flat a = lotsD g.1 ∧ flat b = txD g.2 ∧ g.1.length ≤ 1000 ∧ ∀ z ∈ g.1, z.length ≤ 1000, post := fun g d _ => d = .bool (inOne g.1 g.2) }
def wf_ripe : WF := { G := Gr × List Str, pre := fun g ds _ => ∃ a b, ds = [a, b] ∧ flat a = grD g.1 ∧ flat b = txD g.2 ∧ okGr g.1, post := fun g d _ => d = .list ((ripeG g.1 g.2).map .str) }
theorem gr_of {a : PyData} {G : Gr} (h : flat a = grD G) : ∃ ds, Items a ds ∧ sc a = false ∧ Al (fun d p => flat d = fruitD p) ds G := by
  obtain ⟨ds, h1, h2, h3⟩ := items_of h
  exact ⟨ds, h1, h2, al_flat h3⟩
theorem lots_of' {a : PyData} {ls : List (List Str)} (h : flat a = lotsD ls) : ∃ ds, Items a ds ∧ sc a = false ∧ Al (fun d z => flat d = txD z) ds ls := by
  obtain ⟨ds, h1, h2, h3⟩ := items_of h
  exact ⟨ds, h1, h2, al_flat h3⟩
theorem fruit_of' {a : PyData} {p : Str × List (List Str)} (h : flat a = fruitD p) : ∃ l, Items a [.str p.1, l] ∧ sc a = false ∧ flat l = lotsD p.2 ∧ sc l = false := by
  obtain ⟨ds, h1, h2, h3⟩ := items_of h
  rcases ds with _ | ⟨x, _ | ⟨l, _ | ⟨y, ds⟩⟩⟩
  · simp at h3
  · simp at h3
  · simp at h3
    obtain ⟨_, _, s, _⟩ := items_of h3.2
    rw [flat_str h3.1] at h1
    exact ⟨l, h1, h2, h3.2, s⟩
  · simp at h3
def wf_least : WF := { G := List (List Str), pre := fun ls ds _ => ds = [.list (ls.map liD)] ∧ ls.length < 60 ∧ ∀ z ∈ ls, z.length < 60 ∧ okT z, post := fun ls d _ => ∃ M : List (List Str), d = .list (M.map txD) ∧ M.Nodup ∧ M.length < 64 ∧ ∀ z ∈ M, ∃ y ∈ ls, z.Perm y }
/-- an orchard that a law has grown of these names -/
structure Grew (zs : List Str) (G : Gr) : Prop where
  pm : (G.map (·.1)).Perm zs
  lots : ∀ p ∈ G, p.2.length < 64 ∧ ∀ z ∈ p.2, z.length ≤ 26 ∧ z.Nodup ∧ ∀ x ∈ z, x ∈ zs ∧ x ≠ p.1
def wf_orchard : WF := { G := List Str × Nat × Nat, pre := fun g ds n => ds = [.list (g.1.map .str), .int (g.2.1 : Nat)] ∧ n = g.2.2 ∧ g.1.Nodup ∧ (∀ z ∈ g.1, IsName z) ∧ g.1.length ≤ 26 ∧ g.2.1 ≤ 10 ∧ n ≤ 50000000, post := fun g d n => ∃ G : Gr, d = grD G ∧ Grew g.1 G ∧ n ≤ g.2.2 + 4000 }
theorem eightD {r : Int} (h0 : 0 ≤ r) (h1 : r < 8) : ∃ j : Nat, j ≤ 4 ∧ L2.atI [PyData.int 1, .int 1, .int 2, .int 3, .int 4, .int 1, .int 2, .int 0] r = some (.int j) := by
  have : r = 0 ∨ r = 1 ∨ r = 2 ∨ r = 3 ∨ r = 4 ∨ r = 5 ∨ r = 6 ∨ r = 7 := by omega
  rcases this with rfl | rfl | rfl | rfl | rfl | rfl | rfl | rfl
  · exact ⟨1, by decide, rfl⟩
  · exact ⟨1, by decide, rfl⟩
  · exact ⟨2, by decide, rfl⟩
  · exact ⟨3, by decide, rfl⟩
  · exact ⟨4, by decide, rfl⟩
  · exact ⟨1, by decide, rfl⟩
  · exact ⟨2, by decide, rfl⟩
  · exact ⟨0, by decide, rfl⟩
def okNm (G : Gr) : Prop := ∀ p ∈ G, PyData.strOk p.1 = true
theorem ripe_mem {G : Gr} {o : List Str} {z : Str} (h : z ∈ ripeG G o) : ∃ p ∈ G, p.1 = z ∧ z ∉ o ∧ inOne p.2 o = true := by
  unfold ripeG at h
  obtain ⟨p, hp, rfl⟩ := List.mem_map.mp h
  obtain ⟨h1, h2⟩ := List.mem_filter.mp hp
  simp at h2
  exact ⟨p, h1, rfl, h2.1, h2.2⟩
def pickStep (G : Gr) (lk gone : List Str) : List Str := gone ++ (lk.filter fun f => decide (f ∈ ripeG G gone)).take 1
def pickN (G : Gr) (lk : List Str) : Nat → List Str
  | 0 => []
  | n + 1 => pickStep G lk (pickN G lk n)
def pickG (G : Gr) (lk : List Str) : List Str := pickN G lk lk.length
def wf_picked : WF := { G := Gr × List Str, pre := fun g ds _ => ∃ a b, ds = [a, b] ∧ flat a = grD g.1 ∧ Items b (g.2.map .str) ∧ okGr g.1 ∧ g.2.length ≤ 100, post := fun g d _ => d = .list ((pickG g.1 g.2).map .str) }
theorem pickN_len (G : Gr) (lk : List Str) : ∀ n, (pickN G lk n).length ≤ n
  | 0 => by simp [pickN]
  | n + 1 => by
    have := pickN_len G lk n
    simp only [pickN, pickStep, List.length_append, List.length_take]
    omega
/-- by places -/
def rowP (G : Gr) (zs : List Str) : Prop := (∀ k z, zs[k]? = some z → z ∈ ripeG G (zs.take k)) ∧ ripeG G zs = []
/-- what a picking has: each ripe as it goes -/
theorem pickN_ok (G : Gr) (lk : List Str) : ∀ n, (∀ k z, (pickN G lk n)[k]? = some z → z ∈ ripeG G ((pickN G lk n).take k)) ∧ (pickN G lk n).Nodup ∧ (∀ z ∈ pickN G lk n, z ∈ lk) ∧ ((pickN G lk n).length = n ∨ ∀ z ∈ lk, z ∉ ripeG G (pickN G lk n))
  | 0 => ⟨fun k z e => by simp [pickN] at e, by simp [pickN], fun z h => by simp [pickN] at h, .inl rfl⟩
  | n + 1 => by
    obtain ⟨h1, h2, h3, h4⟩ := pickN_ok G lk n
    generalize hP : pickN G lk n = gone at h1 h2 h3 h4
    cases e : lk.filter (fun f => decide (f ∈ ripeG G gone)) with
    | nil =>
      have es : pickN G lk (n + 1) = gone := by simp [pickN, pickStep, hP, e]
      rw [es]
      refine ⟨h1, h2, h3, .inr fun z hz hr => ?_⟩
      have : z ∈ lk.filter (fun f => decide (f ∈ ripeG G gone)) := List.mem_filter.mpr ⟨hz, by simpa using hr⟩
      rw [e] at this; cases this
    | cons f r =>
      have es : pickN G lk (n + 1) = gone ++ [f] := by simp [pickN, pickStep, hP, e]
      have fm : f ∈ lk.filter (fun f => decide (f ∈ ripeG G gone)) := by rw [e]; exact List.mem_cons_self
      obtain ⟨f1, f2⟩ := List.mem_filter.mp fm
      have f2 : f ∈ ripeG G gone := by simpa using f2
      have fn : f ∉ gone := (ripe_mem f2).elim fun p h => h.2.2.1
      rw [es]
      refine ⟨fun k z ez => ?_, ?_, fun z hz => ?_, ?_⟩
      · by_cases c : k < gone.length
        · rw [List.getElem?_append_left c] at ez
          rw [List.take_append_of_le_length (by omega)]
          exact h1 k z ez
        · have kl := (List.getElem?_eq_some_iff.mp ez).1
          have ek : k = gone.length := by simp at kl; omega
          subst ek
          simp at ez
          subst ez
          simpa using f2
      · rw [List.nodup_append]
        refine ⟨h2, by simp, fun a ha b hb => ?_⟩
        rw [List.mem_singleton.mp hb]
        rintro rfl
        exact fn ha
      · rcases List.mem_append.mp hz with hz | hz
        · exact h3 z hz
        · rw [List.mem_singleton.mp hz]; exact f1
      · rcases h4 with h4 | h4
        · exact .inl (by simp [h4])
        · exact absurd f2 (h4 f f1)
theorem pick_row {G : Gr} {lk : List Str} (hG : ∀ p ∈ G, p.1 ∈ lk) : rowP G (pickG G lk) := by
  obtain ⟨h1, h2, h3, h4⟩ := pickN_ok G lk lk.length
  refine ⟨h1, ?_⟩
  cases e : ripeG G (pickG G lk) with
  | nil => rfl
  | cons z r =>
    exfalso
    have hz : z ∈ ripeG G (pickG G lk) := by rw [e]; exact List.mem_cons_self
    obtain ⟨p, hp, rfl, hn, _⟩ := ripe_mem hz
    rcases h4 with h4 | h4
    · have sub : (pickG G lk).length = lk.length := h4
      -- as many unlike ones of lk as lk has: all of them
      have all : ∀ x ∈ lk, x ∈ pickG G lk := by
        intro x hx
        by_cases c : x ∈ pickG G lk
        · exact c
        · exfalso
          have nd : (x :: pickG G lk).Nodup := List.nodup_cons.mpr ⟨c, h2⟩
          have := List.Nodup.length_le_of_subset nd (l₂ := lk) (fun y hy => by
            rcases List.mem_cons.mp hy with rfl | hy
            · exact hx
            · exact h3 y hy)
          simp at this
          omega
      exact hn (all _ (hG p hp))
    · exact h4 _ (hG p hp) hz
def wf_right : WF := { G := Nat, pre := fun g ds n => ds = [] ∧ n = g ∧ n ≤ 1000, post := fun _ d _ => d = .bool true }
end Rp

/-! sorted(set(..)) of tuples of texts at the level without the heap; more that is built in. -/
namespace Rp
open PySem PySem.Spec PyProof.Rows L2
section
variable {K : PySem.W.Frag} {E : XK} {P : Program} {w : World}
theorem dp_txs {H : Hp} : ∀ {zss : List (List Str)} {vs : List V}, DzAll K H vs (zss.map txD) → ∃ ks : List (Addr × List Str), vs = ks.map (fun p => V.ref p.1) ∧ ks.map (·.2) = zss ∧ ∀ p ∈ ks, SqT K H p.1 (p.2.map V.str) ∧ NoD H p.1
  | [], _, h => by cases h; exact ⟨[], rfl, rfl, fun _ z => by cases z⟩
  | z :: zss, _, h => by
    cases h with
    | cons a t =>
      obtain ⟨ks, h1, h2, h3⟩ := dp_txs t
      cases a with
      | @tup p xs _ hs nd ha =>
        have e := strs_of ha
        subst e
        refine ⟨(p, z) :: ks, by rw [h1]; rfl, by rw [← h2]; rfl, fun q hq => ?_⟩
        rcases List.mem_cons.mp hq with rfl | hq
        · exact ⟨hs, nd⟩
        · exact h3 q hq
theorem dpAll_txs {H : Hp} : ∀ {ks : List (Addr × List Str)}, (∀ p ∈ ks, SqT K H p.1 (p.2.map V.str) ∧ NoD H p.1) → DzAll K H (ks.map fun p => V.ref p.1) (ks.map fun p => txD p.2)
  | [], _ => .nil
  | p :: ks, h => .cons (.tup (h p List.mem_cons_self).1 (h p List.mem_cons_self).2 (dz_strs _)) (dpAll_txs fun q hq => h q (List.mem_cons_of_mem _ hq))
def dSetS (wa : TRd) : TD := fun X δ Q => wa X δ fun l x δ1 => ∃ zss : List (List Str), x = .list (zss.map txD) ∧ l.ch = .V ∧ zss.length < 64 ∧ ∀ M : List (List Str), M.Nodup → (∀ z, z ∈ M ↔ z ∈ zss) → M.length < 64 → (∃ M0 : List (List Str), M = M0.mergeSort (PySem.W.dataLe false txD)) → Q (.list (M.map txD)) δ1
theorem srtT_map (M : List (Addr × List Str)) : (srtT M).map (·.2) = (M.map (·.2)).mergeSort (PySem.W.dataLe false txD) :=
  List.map_mergeSort (f := fun p : Addr × List Str => p.2) (fun a _ b _ => rfl)
theorem ss_run {t : TE} {wa : TRd} [p : PuR K E t wa] {F : Frm K} {hd : Addr → Prop} {σ : L2.St} {H : Hp} {δ : DS} {Q : VK} (hE : F.E = E) (r : Rep K F hd σ H δ) (q : dSetS wa F.X δ (Out K F hd σ H Q)) : tCB (rSortTxE K P w) (tCons (tCB (rSetTx K P w) (tCons t tNil)) tNil) σ H Q :=
  un1 (t := t) hE r q fun l x δ1 v hd1 H1 k1 r1 d1 ⟨zss, ex, cl, le, q⟩ => by
    subst ex
    obtain ⟨a, vs, rfl, hs, ha⟩ := d1.seq r1.bs (.inl rfl)
    have hv : DzAll K (vis F hd1 H1) vs (zss.map txD) := DzAll.upU ha (.inl cl)
    obtain ⟨ks, rfl, rfl, hk⟩ := dp_txs hv
    have toH : Same (vis F hd1 H1) H1 := ((vis_rd r1.bs).trans rd_nt).trans nt_in
    rcases hs with hs | hs
    · refine ⟨a, ks, rfl, nt_in.seq hs.2, fun p hp => Same.seqT toH (hk p hp).1, by rw [List.length_map] at le; exact le, fun S L nS l1 l2 l3 => ?_⟩
      obtain ⟨k2, r2, s2⟩ := r1.new (SetTxO P w S L) nS
      have hL : ∀ p ∈ L, SqT K (vis F hd1 (upd H1 S (SetTxO P w S L))) p.1 (p.2.map V.str) ∧ NoD (vis F hd1 (upd H1 S (SetTxO P w S L))) p.1 := fun p hp => ⟨Same.seqT s2 (hk p (l1 p hp)).1, (hk p (l1 p hp)).2.same s2⟩
      have toH2 : Same (vis F hd1 (upd H1 S (SetTxO P w S L))) (upd H1 S (SetTxO P w S L)) := ((vis_rd r2.bs).trans rd_nt).trans nt_in
      refine ⟨S, L, rfl, upd_same, fun p hp => Same.seqT toH2 (hL p hp).1, fun M R pm lM nR => ?_⟩
      have mem : ∀ p ∈ srtT M, p ∈ L := fun p hp => pm.mem_iff.mp ((List.mergeSort_perm _ _).mem_iff.mp hp)
      refine newLst r2 nR (dpAll_txs fun p hp => hL p (mem p hp)) ?_
      have pm2 : ((srtT M).map (·.2)).Perm (L.map (·.2)) := ((List.mergeSort_perm _ _).trans pm).map _
      have := q ((srtT M).map (·.2)) (pm2.nodup_iff.mpr l3) (fun z => ?_) (by rw [List.length_map, List.length_mergeSort]; exact lM) ⟨_, srtT_map M⟩
      · rw [List.map_map] at this
        exact Out.kp (k1.trans k2) this
      · rw [pm2.mem_iff]
        constructor
        · intro h
          obtain ⟨p, hp, rfl⟩ := List.mem_map.mp h
          exact List.mem_map.mpr ⟨p, l1 p hp, rfl⟩
        · intro h
          obtain ⟨p, hp, rfl⟩ := List.mem_map.mp h
          exact l2 p hp
    · cases hs.1
instance {t : TE} {wa : TRd} [p : PuR K E t wa] : PuE K E (tCB (rSortTxE K P w) (tCons (tCB (rSetTx K P w) (tCons t tNil)) tNil)) (dSetS wa) where
  mono h := p.mono fun _ _ _ ⟨z, a, b, c, q⟩ => ⟨z, a, b, c, fun M m1 m2 m3 m4 => h _ _ (q M m1 m2 m3 m4)⟩
  run hE r q := ss_run hE r q
/-! ### x, y = .., a new list: the second is one's own -/
def sParN (i j : Nat) (wa : TD) (wb : TDa) : TDs := fun X P δ => wa X δ fun x δ1 => wb X δ1 fun ds δ2 => P.nx ⟨(δ2.v.set i (.dat x)).set j (.own ds), δ2.n⟩
instance {i j : Nat} {ta tb : TE} {wa : TD} {wb : TDa} [pa : PuE K E ta wa] [pb : PuN K E tb wb] : PuS K E (tPar i j (tCons ta (tCons tb tNil))) (sParN i j wa wb) where
  mono h := pa.mono fun _ _ => pb.mono fun _ _ q => h.nx _ q
  run {F hd σ H δ P D} hE r e q := pa.run hE r (pa.mono (fun x δ1 q v hd1 H1 k1 r1 d1 => pb.run hE r1 (pb.mono (fun ds δ2 q p vs hd2 H2 k2 r2 r3 np n0 h1 dd => by
    have g : Go F hd1 H1 (fun b => hd2 b ∨ b = p) H2 := ⟨fun b o h t _ => k2.kp b o h t, fun b z => z.elim (fun z => .inl (k2.less b z)) fun z => .inr (by rw [z]; exact n0.2)⟩
    have dv2 := Dz.same (vis_go r1.bs k2.go) d1
    have dv3 := Dz.same (vis_go r1.bs g) d1
    have rA := r2.setDat (i := i) dv2
    have rB := r3.setDat (i := i) dv3
    refine ⟨v, .ref p, rfl, e.nx _ _ _ _ ?_ (rA.setOwn (i := j) rB np h1 dd) q⟩
    exact (k1.go).trans r1.bs rB.bs g) q)) q)
/-! ### xs[::-1] -/
def lRev (w : TRd) : TDa := fun X δ Q => w X δ fun l x δ1 => ∃ ds, x = .list ds ∧ okU l ds ∧ Q ds.reverse δ1
theorem dp_rev {H : Hp} : ∀ {vs : List V} {ds : List PyData}, DzAll K H vs ds → DzAll K H vs.reverse ds.reverse
  | _, _, .nil => .nil
  | _, _, .cons a t => by
    rw [List.reverse_cons, List.reverse_cons]
    exact dpAll_app (dp_rev t) (.cons a .nil)
instance {t : TE} {w : TRd} [p : PuR K E t w] : PuN K E (tRevL K t) (lRev w) where
  mono h := p.mono fun _ _ _ ⟨ds, e, c, q⟩ => ⟨ds, e, c, h _ _ q⟩
  run hE r q := un1 (t := t) hE r q fun l x δ1 v hd1 H1 k1 r1 d1 ⟨ds, e, c, q⟩ => by
    subst e
    obtain ⟨a, vs, rfl, hs, ha⟩ := d1.seq r1.bs (.inl rfl)
    rcases hs with hs | hs
    · exact ⟨a, vs, rfl, nt_in.seq hs.2, fun p np => newN r1 np (dp_rev (DzAll.upU ha c)) (q.kp k1)⟩
    · cases hs.1
instance {t : TE} {w : TRd} [p : PuR K E t w] : PuL K E (tRevL K t) (lRev w) where
  mono h := p.mono fun _ _ _ ⟨ds, e, c, q⟩ => ⟨ds, e, c, h _ _ q⟩
  run hE r q := un1 (t := t) hE r q fun l x δ1 v hd1 H1 k1 r1 d1 ⟨ds, e, c, q⟩ => by
    subst e
    obtain ⟨a, vs, rfl, hs, ha⟩ := d1.seq r1.bs (.inl rfl)
    rcases hs with hs | hs
    · exact ⟨a, vs, rfl, nt_in.seq hs.2, fun p np => newL r1 np (dp_rev (DzAll.upU ha c)) (q.kp k1)⟩
    · cases hs.1
instance {t : TE} {w : TRd} [p : PuR K E t w] : PuE K E (tRevL K t) (dL (lRev w)) where
  mono h := p.mono fun _ _ _ ⟨ds, e, c, q⟩ => ⟨ds, e, c, h _ _ q⟩
  run hE r q := un1 (t := t) hE r q fun l x δ1 v hd1 H1 k1 r1 d1 ⟨ds, e, c, q⟩ => by
    subst e
    obtain ⟨a, vs, rfl, hs, ha⟩ := d1.seq r1.bs (.inl rfl)
    rcases hs with hs | hs
    · exact ⟨a, vs, rfl, nt_in.seq hs.2, fun p np => newLst r1 np (dp_rev (DzAll.upU ha c)) (q.kp k1)⟩
    · cases hs.1
end
end Rp

/-! repr of any data, in of any data, not of a list, is of truths. -/
namespace Rp
open PySem PySem.Spec PyProof.Rows L2
/-- small data without dicts -/
def Tame : Nat → PyData → Prop
  | _, .none => True
  | _, .bool _ => True
  | _, .int i => i.natAbs ≤ 1000000 ∧ (PyData.shown (.int i)).length ≤ 13
  | _, .str x => PyData.strOk x = true ∧ x.cps.size ≤ 20
  | n + 1, .list ds => ds.length ≤ 100 ∧ ∀ d ∈ ds, Tame n d
  | n + 1, .tuple ds => ds.length ≤ 100 ∧ ∀ d ∈ ds, Tame n d
  | _, _ => False
structure Fine (W D : Nat) (d : PyData) : Prop where
  lay : d.canLay0 = true
  dep : d.depth ≤ D
  wt : d.weight ≤ W
  sho : d.intsShort 13 = true
  show_ : d.showable = true
  nod : d.hasDict = false
theorem fine_all {W D : Nat} : ∀ {ds : List PyData}, (∀ d ∈ ds, Fine W D d) → PyData.canLayAll0 ds = true ∧ PyData.depthAll ds ≤ D ∧ PyData.weightAll ds ≤ ds.length * (W + 1) ∧ PyData.intsShortAll 13 ds = true ∧ PyData.showableAll ds = true ∧ PyData.hasDictAll ds = false
  | [], _ => by simp [PyData.canLayAll0, PyData.depthAll, PyData.weightAll, PyData.intsShortAll, PyData.showableAll, PyData.hasDictAll]
  | d :: ds, h => by
    obtain ⟨h1, h2, h3, h4, h5, h6⟩ := fine_all fun e he => h e (List.mem_cons_of_mem _ he)
    have f := h d List.mem_cons_self
    refine ⟨by simp [PyData.canLayAll0, f.lay, h1], ?_, ?_, by simp [PyData.intsShortAll, f.sho, h4], by simp [PyData.showableAll, f.show_, h5], by simp [PyData.hasDictAll, f.nod, h6]⟩
    · have := f.dep
      simp only [PyData.depthAll]
      omega
    · have := f.wt
      simp only [PyData.weightAll, List.length_cons, Nat.add_mul]
      omega
theorem fine_seq {W D W' D' : Nat} {ds : List PyData} (h : ∀ d ∈ ds, Fine W D d) (l : ds.length ≤ 100) (hw : 100 * (W + 1) ≤ W') (hd : D + 1 ≤ D') : Fine W' D' (.list ds) ∧ Fine W' D' (.tuple ds) := by
  obtain ⟨h1, h2, h3, h4, h5, h6⟩ := fine_all h
  have : ds.length * (W + 1) ≤ 100 * (W + 1) := Nat.mul_le_mul_right _ l
  refine ⟨⟨by simp only [PyData.canLay0]; exact h1, by simp only [PyData.depth]; omega, by simp only [PyData.weight]; omega, by simp only [PyData.intsShort]; exact h4, by simp only [PyData.showable]; exact h5, by simp only [PyData.hasDict]; exact h6⟩,
    ⟨by simp only [PyData.canLay0]; exact h1, by simp only [PyData.depth]; omega, by simp only [PyData.weight]; omega, by simp only [PyData.intsShort]; exact h4, by simp only [PyData.showable]; exact h5, by simp only [PyData.hasDict]; exact h6⟩⟩
theorem fine_sc {n : Nat} {d : PyData} (h : Tame n d) (e : sc d = true) : Fine 21 0 d := by
  cases d with
  | none => exact ⟨by simp [PyData.canLay0], by simp [PyData.depth], by simp [PyData.weight], by simp [PyData.intsShort], by simp [PyData.showable], by simp [PyData.hasDict]⟩
  | bool b => exact ⟨by simp [PyData.canLay0], by simp [PyData.depth], by simp [PyData.weight], by simp [PyData.intsShort], by simp [PyData.showable], by simp [PyData.hasDict]⟩
  | int i =>
    have h : i.natAbs ≤ 1000000 ∧ (PyData.shown (.int i)).length ≤ 13 := by unfold Tame at h; exact h
    have lg : i.natAbs.log2 < 20 := by
      by_cases z : i.natAbs = 0
      · rw [z]; decide
      · exact (Nat.log2_lt z).mpr (by have := h.1; omega)
    refine ⟨by simp [PyData.canLay0], by simp [PyData.depth], ?_, ?_, by simp [PyData.showable]; omega, by simp [PyData.hasDict]⟩
    · simp only [PyData.weight]
      split <;> omega
    · simp only [PyData.intsShort]
      exact decide_eq_true h.2
  | str x =>
    have h : PyData.strOk x = true ∧ x.cps.size ≤ 20 := by unfold Tame at h; exact h
    exact ⟨by simp [PyData.canLay0, h.1], by simp [PyData.depth], by simp only [PyData.weight]; omega, by simp [PyData.intsShort], by simp [PyData.showable], by simp [PyData.hasDict]⟩
  | list _ => cases e
  | tuple _ => cases e
  | dict _ => cases e
theorem fine_0 {d : PyData} (h : Tame 0 d) : Fine 21 0 d := fine_sc h (by cases d <;> first | rfl | exact h.elim)
theorem fine_1 {d : PyData} (h : Tame 1 d) : Fine 2200 1 d := by
  cases d with
  | list ds => exact (fine_seq (fun d hd => fine_0 (h.2 d hd)) h.1 (by omega) (by omega)).1
  | tuple ds => exact (fine_seq (fun d hd => fine_0 (h.2 d hd)) h.1 (by omega) (by omega)).2
  | dict _ => exact h.elim
  | none => have f := fine_sc h rfl; exact ⟨f.lay, by have := f.dep; omega, by have := f.wt; omega, f.sho, f.show_, f.nod⟩
  | bool _ => have f := fine_sc h rfl; exact ⟨f.lay, by have := f.dep; omega, by have := f.wt; omega, f.sho, f.show_, f.nod⟩
  | int _ => have f := fine_sc h rfl; exact ⟨f.lay, by have := f.dep; omega, by have := f.wt; omega, f.sho, f.show_, f.nod⟩
  | str _ => have f := fine_sc h rfl; exact ⟨f.lay, by have := f.dep; omega, by have := f.wt; omega, f.sho, f.show_, f.nod⟩
theorem Fine.shaped {W D : Nat} {d : PyData} (f : Fine W D d) (h : D ≤ 64) : SeqAt.shaped d = true := by
  have := f.dep
  simp [SeqAt.shaped, f.lay]; omega
theorem Fine.fits {W D : Nat} {d : PyData} (f : Fine W D d) (h : D ≤ 64) (hw : W ≤ 1048576) : d.shown.length ≤ sizeLine := by
  refine PyData.shown_fits_of_layable0 (B := 13) (by decide) (by decide) ?_ f.sho
  have h1 := f.dep
  have h2 := f.wt
  simp only [PyData.layable0, f.lay, Bool.and_eq_true, decide_eq_true_eq, true_and]
  omega
section
variable {X : Cx}
/-- repr of any data -/
def rReprA (K : PySem.W.Frag) : List V → Hp → VK → Prop := fun xs H Q => ∃ (x : V) (d : PyData), xs = [x] ∧ Dp K H x d ∧ d.showable = true ∧ d.hasDict = false ∧ d.depth ≤ 50 ∧ d.shown.length ≤ sizeLine ∧ Q (.str d.shown) H
theorem call_reprA (noRepr : X.A.guards = some []) (hu : X.A.units + 64 < cLine) : CallR X (.builtin "repr") (rReprA X.K) := by
  intro pins s σ H xs us Q I r h
  obtain ⟨x, d, rfl, hd, h1, h2, h3, h4, q⟩ := h
  cases hd with
  | non =>
    obtain ⟨u, rfl, ru⟩ := vals1 r
    cases (show u = Value.none from ru)
    refine PySem.P.repr_of_none ?_
    exact ⟨.str (PyData.shown .none), H, I.tok _, ⟨_, rfl⟩, q⟩
  | bl b =>
    obtain ⟨u, rfl, ru⟩ := vals1 r
    cases (show u = Value.bool b from ru)
    refine PySem.P.repr_of_bool ?_
    exact ⟨.str (PyData.shown (.bool b)), H, I.tok _, ⟨_, by rw [PyData.shown]⟩, q⟩
  | int i =>
    obtain ⟨u, rfl, ru⟩ := vals1 r
    obtain ⟨t, rfl⟩ := ru
    refine PySem.P.repr_of_int (by simpa [PyData.showable] using h1) ?_
    exact ⟨.str (PyData.shown (.int i)), H, I.tok _, ⟨_, by rw [PyData.shown]⟩, q⟩
  | str z =>
    obtain ⟨u, rfl, ru⟩ := vals1 r
    obtain ⟨t, rfl⟩ := ru
    refine PySem.P.repr_of_str ?_ (by rw [PyData.shown] at h4; exact h4)
    exact ⟨.str (PyData.shown (.str z)), H, I.tok _, ⟨_, by rw [PyData.shown]⟩, q⟩
  | lst a b => exact call_repr noRepr hu pins s σ H _ us Q I r ⟨_, _, rfl, .lst a b, h1, h2, h3, h4, q⟩
  | tup a b => exact call_repr noRepr hu pins s σ H _ us Q I r ⟨_, _, rfl, .tup a b, h1, h2, h3, h4, q⟩
end
section
variable {K : PySem.W.Frag} {E : XK}
def fRepr : Lv → PyData → (PyData → Prop) → Prop := fun _ d Q => d.showable = true ∧ d.hasDict = false ∧ d.depth ≤ 50 ∧ d.shown.length ≤ sizeLine ∧ Q (.str d.shown)
instance {t : TE} {w : TRd} [p : PuR K E t w] : PuE K E (tCB (rReprA K) (tCons t tNil)) (dB1 fRepr w) where
  mono h := p.mono fun _ _ _ ⟨a, b, c, d, q⟩ => ⟨a, b, c, d, h _ _ q⟩
  run hE r q := un1 (t := t) hE r q fun l x δ1 v hd1 H1 k1 r1 d1 ⟨a, b, c, d, q⟩ => ⟨v, x, rfl, Dp.same nt_in (d1.nt r1.bs), a, b, c, d, q _ _ _ k1 r1 (.str _)⟩
/-- x in xs of any data -/
def fInD (neg : Bool) : PyData → PyData → (PyData → Prop) → Prop := fun x y Q => ∃ ds, y = .list ds ∧ SeqAt.shaped x = true ∧ SeqAt.shaped (.list ds) = true ∧ Q (.bool (if neg then !ds.any (fun z => PyData.eqv z x) else ds.any fun z => PyData.eqv z x))
instance {ta tb : TE} {wa wb : TRd} [pa : PuR K E ta wa] [pb : PuR K E tb wb] : PuE K E (tOp (rInD K) ta tb) (dOp (fInD false) wa wb) where
  mono h := pa.mono fun _ _ _ => pb.mono fun _ _ _ ⟨ds, i, e, f, q⟩ => ⟨ds, i, e, f, h _ _ q⟩
  run hE r q := bin2 hE r q fun l x m y δ2 v u hd2 H2 k r2 d1 d2 ⟨ds, i, e, f, q⟩ => by
    subst i
    exact ⟨x, ds, Dp.same nt_in (d1.nt r2.bs), Dp.same nt_in (d2.nt r2.bs), e, f, q _ _ _ k r2 (.bl _)⟩
instance {ta tb : TE} {wa wb : TRd} [pa : PuR K E ta wa] [pb : PuR K E tb wb] : PuE K E (tOp (rNotInD K) ta tb) (dOp (fInD true) wa wb) where
  mono h := pa.mono fun _ _ _ => pb.mono fun _ _ _ ⟨ds, i, e, f, q⟩ => ⟨ds, i, e, f, h _ _ q⟩
  run hE r q := bin2 hE r q fun l x m y δ2 v u hd2 H2 k r2 d1 d2 ⟨ds, i, e, f, q⟩ => by
    subst i
    exact ⟨x, ds, Dp.same nt_in (d1.nt r2.bs), Dp.same nt_in (d2.nt r2.bs), e, f, q _ _ _ k r2 (.bl _)⟩
theorem tru_ok' {F : Frm K} {hd : Addr → Prop} {H : Hp} {l : Lv} {v : V} {x : PyData} {k : Bool} (B : Bs F hd H) (d : RV K F hd H l v x) (e : tru x = some k) : TruV K v H k := by
  have d := Dp.same nt_in (d.nt B)
  cases d with
  | non => unfold tru at e; exact (Option.some.inj e).symm
  | bl b => unfold tru at e; exact (Option.some.inj e).symm
  | int i =>
    unfold tru at e
    have e := Option.some.inj e
    show k = (i != 0)
    rw [← e]
    by_cases c : i = 0 <;> simp [c]
  | str _ => unfold tru at e; cases e
  | lst hs ha =>
    unfold tru at e
    have e := Option.some.inj e
    refine .inl ⟨_, hs, ?_⟩
    rw [← e]
    cases ha <;> rfl
  | tup hs ha =>
    unfold tru at e
    have e := Option.some.inj e
    refine .inr (.inl ⟨_, hs, ?_⟩)
    rw [← e]
    cases ha <;> rfl
def fNotT : Lv → PyData → (PyData → Prop) → Prop := fun _ x Q => ∃ k, tru x = some k ∧ Q (.bool (!k))
instance {t : TE} {w : TRd} [p : PuR K E t w] : PuE K E (tNotT K t) (dB1 fNotT w) where
  mono h := p.mono fun _ _ _ ⟨k, e, q⟩ => ⟨k, e, h _ _ q⟩
  run hE r q := un1 (t := t) hE r q fun l x δ1 v hd1 H1 k1 r1 d1 ⟨k, e, q⟩ => ⟨k, tru_ok' r1.bs d1 e, q _ _ _ k1 r1 (.bl _)⟩
def tTruA (K : PySem.W.Frag) (ta : TE) : TT := fun σ H Q => ta σ H fun x H' => ∃ k, TruV K x H' k ∧ Q k H'
theorem kk_truth {X : Cx} {a : Expr} {ta : TE} (ha : PE X a ta) (he : ∀ whole, isTrue a X.env whole = (do let v ← whole; standAt a.pos; holding [v] (truthy v)) := by intro _; rfl) : PT X a (tTruA X.K ta) := pt_truth ha he
def dTru (w : TRd) : TDt := fun X δ Q => w X δ fun _ x δ1 => ∃ k, tru x = some k ∧ Q k δ1
instance {t : TE} {w : TRd} [p : PuR K E t w] : PuT K E (tTruA K t) (dTru w) where
  mono h := p.mono fun _ _ _ ⟨k, e, q⟩ => ⟨k, e, h _ _ q⟩
  run hE r q := un1 (t := t) hE r q fun l x δ1 v hd1 H1 k1 r1 d1 ⟨k, e, q⟩ => ⟨k, tru_ok' r1.bs d1 e, q _ _ k1 r1⟩
def fIsB (neg : Bool) : PyData → PyData → (PyData → Prop) → Prop := fun x y Q => ∃ a b, x = .bool a ∧ y = .bool b ∧ Q (.bool (if neg then !decide (a = b) else decide (a = b)))
instance {ta tb : TE} {wa wb : TRd} [pa : PuR K E ta wa] [pb : PuR K E tb wb] : PuE K E (tOp rNotB ta tb) (dOp (fIsB true) wa wb) where
  mono h := pa.mono fun _ _ _ => pb.mono fun _ _ _ ⟨a, b, e1, e2, q⟩ => ⟨a, b, e1, e2, h _ _ q⟩
  run hE r q := bin2 hE r q fun l x m y δ2 v u hd2 H2 k r2 d1 d2 ⟨a, b, e1, e2, q⟩ => ⟨a, b, by subst e1; exact d1.bool r2.bs, by subst e2; exact d2.bool r2.bs, q _ _ _ k r2 (.bl _)⟩
instance {ta tb : TE} {wa wb : TRd} [pa : PuR K E ta wa] [pb : PuR K E tb wb] : PuE K E (tOp rIsB ta tb) (dOp (fIsB false) wa wb) where
  mono h := pa.mono fun _ _ _ => pb.mono fun _ _ _ ⟨a, b, e1, e2, q⟩ => ⟨a, b, e1, e2, h _ _ q⟩
  run hE r q := bin2 hE r q fun l x m y δ2 v u hd2 H2 k r2 d1 d2 ⟨a, b, e1, e2, q⟩ => ⟨a, b, by subst e1; exact d1.bool r2.bs, by subst e2; exact d2.bool r2.bs, q _ _ _ k r2 (.bl _)⟩
end
theorem Grew.okG {zs : List Str} {G : Gr} (h : Grew zs G) (l : zs.length ≤ 26) : okGr G := ⟨by have := h.pm.length_eq; rw [List.length_map] at this; omega, fun p hp => ⟨by have := (h.lots p hp).1; omega, fun z hz => by have := ((h.lots p hp).2 z hz).1; omega⟩⟩
theorem Grew.okN {zs : List Str} {G : Gr} (h : Grew zs G) (n : ∀ z ∈ zs, IsName z) : okNm G := fun p hp => name_ok (n p.1 (h.pm.mem_iff.mp (List.mem_map.mpr ⟨p, hp, rfl⟩)))
/-- what may be asked whether it is a row -/
structure Odd (d : PyData) : Prop where
  tame : Tame 2 d
theorem tame_name {n : Nat} {z : Str} (h : IsName z) : Tame n (.str z) := by
  unfold Tame
  exact ⟨name_ok h, by have := h.2.1; show z.length ≤ 20; omega⟩
theorem tame_names {n : Nat} {zs : List Str} (h : ∀ z ∈ zs, IsName z) (l : zs.length ≤ 100) : Tame (n + 1) (.list (zs.map .str)) ∧ Tame (n + 1) (.tuple (zs.map .str)) := by
  have a : ∀ d ∈ zs.map PyData.str, Tame n d := fun d hd => by
    obtain ⟨z, hz, rfl⟩ := List.mem_map.mp hd
    exact tame_name (h z hz)
  exact ⟨⟨by rw [List.length_map]; exact l, a⟩, ⟨by rw [List.length_map]; exact l, a⟩⟩
end Rp

/-! in of any data in a list or a tuple; list.count of any data. -/
namespace Rp
open PySem PySem.Spec PyProof.Rows L2
section
variable {X : Cx}
def rInA (K : PySem.W.Frag) : R2 := fun x y H Q => ∃ d e ds, Dp K H x d ∧ Dp K H y e ∧ Items e ds ∧ SeqAt.shaped d = true ∧ SeqAt.shaped e = true ∧ Q (.bl (ds.any fun z => PyData.eqv z d)) H
def rCountD (K : PySem.W.Frag) : V → List V → Hp → VK → Prop := fun x xs H Q => ∃ (a : Addr) (y : V) (d : PyData) (ds : List PyData), x = V.ref a ∧ xs = [y] ∧ Dp K H (V.ref a) (.list ds) ∧ Dp K H y d ∧
  SeqAt.shaped (.list ds) = true ∧ SeqAt.shaped d = true ∧ Q (.int (ds.countP fun z => PyData.eqv z d : Nat)) H
end
section
variable {K : PySem.W.Frag} {E : XK}
def fInA : PyData → PyData → (PyData → Prop) → Prop := fun x y Q => ∃ ds, Items y ds ∧ SeqAt.shaped x = true ∧ SeqAt.shaped y = true ∧ Q (.bool (ds.any fun z => PyData.eqv z x))
instance {ta tb : TE} {wa wb : TRd} [pa : PuR K E ta wa] [pb : PuR K E tb wb] : PuE K E (tOp (rInA K) ta tb) (dOp fInA wa wb) where
  mono h := pa.mono fun _ _ _ => pb.mono fun _ _ _ ⟨ds, i, e, f, q⟩ => ⟨ds, i, e, f, h _ _ q⟩
  run hE r q := bin2 hE r q fun l x m y δ2 v u hd2 H2 k r2 d1 d2 ⟨ds, i, e, f, q⟩ => ⟨x, y, ds, Dp.same nt_in (d1.nt r2.bs), Dp.same nt_in (d2.nt r2.bs), i, e, f, q _ _ _ k r2 (.bl _)⟩
end
end Rp

/-! t[::-1] of a tuple. -/
namespace Rp
open PySem PySem.Spec PyProof.Rows L2 HT
section
variable {prog : Program} {w : World} {A : Around} {E : Value → Shared → Prop} {s : Shared}
end
section
variable {X : Cx}
def tRevT (K : PySem.W.Frag) (te : TE) : TE := fun σ H Q => te σ H fun x H1 => ∃ a xs, x = .ref a ∧ SqT K H1 a xs ∧ ∀ p ob, H1 p = none → ob.dict = none → Q (.ref p) (upd H1 p (.frz ob (.tup xs.reverse)))
end
section
variable {K : PySem.W.Frag} {E : XK}
def fRevT : Lv → PyData → (PyData → Prop) → Prop := fun l x Q => ∃ ds, x = .tuple ds ∧ okU l ds ∧ Q (.tuple ds.reverse)
def dRevT (w : TRd) : TD := fun X δ Q => w X δ fun l x δ1 => fRevT l x fun d => Q d δ1
instance {t : TE} {w : TRd} [p : PuR K E t w] : PuE K E (tRevT K t) (dRevT w) where
  mono h := p.mono fun _ _ _ ⟨ds, e, c, q⟩ => ⟨ds, e, c, h _ _ q⟩
  run hE r q := un1 (t := t) hE r q fun l x δ1 v hd1 H1 k1 r1 d1 ⟨ds, e, c, q⟩ => by
    subst e
    obtain ⟨a, vs, rfl, hs, ha⟩ := d1.seq r1.bs (.inr rfl)
    rcases hs with hs | hs
    · cases hs.1
    · exact ⟨a, vs, rfl, Same.seqT nt_in hs.2, fun p ob np nd => newTup r1 np nd (dp_rev (DzAll.upU ha c)) (q.kp k1)⟩
/-- xs.count(x) -/
def dCount (wa wb : TRd) : TD := fun X δ Q => wa X δ fun _ x δ1 => (∃ ds, x = .list ds) ∧ wb X δ1 fun _ y δ2 => ∃ ds, x = .list ds ∧ SeqAt.shaped x = true ∧ SeqAt.shaped y = true ∧ Q (.int (ds.countP fun z => PyData.eqv z y : Nat)) δ2
instance {ta tb : TE} {wa wb : TRd} [pa : PuR K E ta wa] [pb : PuR K E tb wb] : PuE K E (tBM K "list" (rCountD K) ta (tCons tb tNil)) (dCount wa wb) where
  mono h := pa.mono fun _ _ _ ⟨e, q⟩ => ⟨e, pb.mono (fun _ _ _ ⟨ds, i, e, f, q⟩ => ⟨ds, i, e, f, h _ _ q⟩) q⟩
  run hE r q := by
    refine pa.run hE r (pa.mono (fun l x δ1 h1 => ?_) q)
    obtain ⟨⟨ds, rfl⟩, h1⟩ := h1
    intro v hd1 H1 k1 r1 d1
    obtain ⟨a, vs, rfl, hs, ha⟩ := d1.seq r1.bs (.inl rfl)
    refine ⟨.inl ⟨rfl, vs, ?_⟩, ?_⟩
    · rcases hs with hs | hs
      · exact nt_in.seq hs.2
      · cases hs.1
    · refine pb.run hE r1 (pb.mono (fun m y δ2 h2 => ?_) h1)
      intro u hd2 H2 k2 r2 d2
      obtain ⟨ds', e, e1, e2, q⟩ := h2
      cases e
      exact ⟨a, u, y, ds, rfl, rfl, Dp.same nt_in ((d1.kp r1.bs k2).nt r2.bs), Dp.same nt_in (d2.nt r2.bs), e1, e2, q _ _ _ (k1.trans k2) r2 (.int _)⟩
/-- t + u, u not bare -/
def dCatT (wa wb : TRd) : TD := fun X δ Q => wa X δ fun l x δ1 => wb X δ1 fun m y δ2 => ∃ ds es, x = .tuple ds ∧ y = .tuple es ∧ (es ≠ [] ∨ l = .V) ∧ ds.length + es.length ≤ sizeLine ∧ okU l ds ∧ m = .V ∧ Q (.tuple (ds ++ es)) δ2
instance {ta tb : TE} {wa wb : TRd} [pa : PuR K E ta wa] [pb : PuR K E tb wb] : PuE K E (tOp (rCatZ K) ta tb) (dCatT wa wb) where
  mono h := pa.mono fun _ _ _ => pb.mono fun _ _ _ ⟨ds, es, a, b, c, d, e, f, q⟩ => ⟨ds, es, a, b, c, d, e, f, h _ _ q⟩
  run {F hd σ H δ Q} hE r q := bin2 hE r q fun l x m y δ2 v u hd2 H2 k r2 d1 d2 ⟨ds, es, ex, ey, ne, hl, c, em, q⟩ => by
    subst ex ey em
    obtain ⟨a, vs, rfl, hs, ha⟩ := d1.seq r2.bs (.inr rfl)
    have d2' := d2
    obtain ⟨b, us, rfl, ht, hb⟩ := d2'.seq r2.bs (.inr rfl)
    have hs : SqT K (ntH F H2) a vs := by
      rcases hs with hs | hs
      · cases hs.1
      · exact hs.2
    have ht : SqT K (ntH F H2) b us := by
      rcases ht with ht | ht
      · cases ht.1
      · exact ht.2
    have la := DzAll.len ha
    have lb := DzAll.len hb
    refine ⟨a, b, vs, us, rfl, rfl, Same.seqT nt_in hs, Same.seqT nt_in ht, by omega, fun e => ?_, fun _ e => ?_, fun _ _ p ob np nd => ?_⟩
    · subst e
      have : ds = [] := List.length_eq_zero_iff.mp la.symm
      subst this
      exact q _ _ _ k r2 d2
    · subst e
      have e0 : es = [] := List.length_eq_zero_iff.mp lb.symm
      rcases ne with ne | ne
      · exact absurd e0 ne
      · subst e0 ne
        rw [List.append_nil] at q
        exact q _ _ _ k r2 d1
    · exact newTup r2 np nd (dpAll_app (DzAll.upU ha c) hb) (q.kp k)
end
end Rp

/-! index of a text in a list or a tuple; raise; try; errors that are kept; slices of lists and tuples alike; pop and insert of one's own list. -/
namespace Rp
open PySem PySem.Spec PyProof.Rows L2
/-! ### index -/
def rIdxL (K : PySem.W.Frag) : V → List V → Hp → VK → Prop := fun x xs H Q => ∃ p, ∃ ys : List Str, ∃ z j, x = .ref p ∧ xs = [.str z] ∧ SqL K H p (ys.map V.str) ∧ ys[j]? = some z ∧ (∀ m, m < j → ys[m]? ≠ some z) ∧ Q (.int (j : Nat)) H
def rIdxT (K : PySem.W.Frag) : V → List V → Hp → VK → Prop := fun x xs H Q => ∃ p, ∃ ys : List Str, ∃ z j, x = .ref p ∧ xs = [.str z] ∧ SqT K H p (ys.map V.str) ∧ ys[j]? = some z ∧ (∀ m, m < j → ys[m]? ≠ some z) ∧ Q (.int (j : Nat)) H
section
variable {X : Cx}
theorem mt_idxL : MtR X "list.index" (rIdxL X.K) := by
  intro pins s σ H x xs v us Q I rx rxs h
  obtain ⟨p, ys, z, j, rfl, rfl, hs, hj, hno, q⟩ := h
  refine mt_index pins s σ H _ _ v us Q I rx rxs ⟨p, ys.map V.str, .str z, j, .str z, rfl, rfl, hs, rfl, flat_strs ys, by rw [List.getElem?_map, hj]; rfl, by simp [eqV], fun m z' hm hz => ?_, q⟩
  rw [List.getElem?_map] at hz
  obtain ⟨u, hu, rfl⟩ := Option.map_eq_some_iff.mp hz
  have : u ≠ z := fun e => hno m hm (by rw [hu, e])
  simp [eqV, this]
theorem mt_idxT : MtR X "tuple.index" (rIdxT X.K) := mt_tup_index
def tIdx (K : PySem.W.Frag) (to : TE) (t : TA) : TE := fun σ H Q => to σ H fun x H1 => (tyV K "list" x H1 ∧ t σ H1 fun xs H2 => rIdxL K x xs H2 Q) ∨ ((∃ a, x = .ref a ∧ NoD H1 a) ∧ t σ H1 fun xs H2 => rIdxT K x xs H2 Q)
theorem pe_idx {o e : Expr} {es : List Expr} {to : TE} {t : TA} {apos cpos : Pos} (ho : PE X o to) (ha : PA X (e :: es) t)
    (hbase : attributeBase o "index" X.env (eval o X.env) = eval o X.env := by rfl)
    (hfew : ((backTo cpos (starEach (e :: es) X.env)).all (fun x => !x.1) && (backToKw cpos (keywordEach [] X.env)).all (fun x => x.1.isSome)
      && decide ((e :: es).length + ([] : List Keyword).length + (if ([] : List Keyword).isEmpty then 0 else 1) < 30)) = true := by rfl)
    (hline : (apos.endLine == cpos.line) = true := by rfl) (hs : starEach (e :: es) X.env = (false, eval e X.env) :: starEach es X.env := by rfl) (hplain : (backTo cpos (starEach es X.env)).any (·.1) = false := by rfl) :
    PE X (.Call (.Attribute o "index" apos) (e :: es) [] cpos) (tIdx X.K to t) := by
  refine ⟨fun pins s σ H Q I h => ?_⟩
  refine wpAny_Call_method_late hbase hfew hline rfl (thn (ho.run pins s σ H _ I h) fun v s1 ⟨x, H1, I1, r1, q1⟩ => ?_)
  rcases q1 with ⟨ty, q1⟩ | ⟨ty, q1⟩
  · obtain ⟨h1, h2⟩ := tyV_is I1 r1 ty
    refine ⟨"list", "list.index", PySem.F.plainAttrs_list, PySem.F.slot_list_index, PySem.F.type_list_index, h1, h2, ?_⟩
    have hA := ha.run cpos pins s1 σ H1 _ I1 q1
    rw [hs] at hA ⊢
    refine Calls.callWith_builtin (by show (false || (backTo cpos (starEach es X.env)).any (·.1)) = false; rw [hplain] <;> rfl) (Calls.evalArgs_plain ?_)
    exact thn hA fun us s2 ⟨vs, H2, I2, r2, q2⟩ => mt_idxL pins s2 σ H2 x vs v us Q I2 r1 r2 q2
  · obtain ⟨a, rfl, o, xs, hh, nd⟩ := ty
    cases r1
    obtain ⟨g1, _, _, _, o', g2, g3, _⟩ := (show ObjOk X.prog X.w H1 s1.heap a (.frz o (.tup xs)) from I1.hok a _ hh)
    rw [g1] at g2; cases g2
    have h1 : s1.TypeIs (.ref a) "tuple" := ⟨o, g1, g3⟩
    have h2 : ∀ b, Value.ref a = .ref b → ∃ ob, s1.heap.get? b = some ob ∧ ob.dict = none := fun b e => by cases e; exact ⟨o, g1, nd⟩
    refine ⟨"tuple", "tuple.index", PySem.F.plainAttrs_tuple, PySem.F.slot_tuple_index, PySem.F.type_tuple_index, h1, h2, ?_⟩
    have hA := ha.run cpos pins s1 σ H1 _ I1 q1
    rw [hs] at hA ⊢
    refine Calls.callWith_builtin (by show (false || (backTo cpos (starEach es X.env)).any (·.1)) = false; rw [hplain] <;> rfl) (Calls.evalArgs_plain ?_)
    exact thn hA fun us s2 ⟨vs, H2, I2, r2, q2⟩ => mt_idxT pins s2 σ H2 (.ref a) vs (.ref a) us Q I2 rfl r2 q2
end
/-- where it stands first -/
def ixO (ys : List Str) (z : Str) : Nat := ys.findIdx fun y => decide (y = z)
theorem ixO_at {ys : List Str} {z : Str} (h : z ∈ ys) : ys[ixO ys z]? = some z ∧ ∀ m, m < ixO ys z → ys[m]? ≠ some z := by
  have hl : ixO ys z < ys.length := List.findIdx_lt_length_of_exists ⟨z, h, by simp⟩
  refine ⟨?_, fun m hm e => ?_⟩
  · have := List.findIdx_getElem (xs := ys) (p := fun y => decide (y = z)) (w := hl)
    rw [List.getElem?_eq_getElem hl]
    have e : ys[ys.findIdx fun y => decide (y = z)] = z := by simpa using this
    exact congrArg some e
  · have := List.not_of_lt_findIdx (xs := ys) (p := fun y => decide (y = z)) hm
    obtain ⟨h1, h2⟩ := List.getElem?_eq_some_iff.mp e
    simp [h2] at this
section
variable {K : PySem.W.Frag} {E : XK}
def dIdx (wa wb : TRd) : TD := fun X δ Q => wa X δ fun l x δ1 => (∃ ds, notP l x = true ∧ Items x ds) ∧ wb X δ1 fun _ y δ2 => ∃ (ys : List Str) (z : Str), Items x (ys.map .str) ∧ y = .str z ∧ z ∈ ys ∧ Q (.int (ixO ys z : Nat)) δ2
instance {ta tb : TE} {wa wb : TRd} [pa : PuR K E ta wa] [pb : PuR K E tb wb] : PuE K E (tIdx K ta (tCons tb tNil)) (dIdx wa wb) where
  mono h := pa.mono fun _ _ _ ⟨e, q⟩ => ⟨e, pb.mono (fun _ _ _ ⟨ys, z, i, e, f, q⟩ => ⟨ys, z, i, e, f, h _ _ q⟩) q⟩
  run {F hd σ H δ Q} hE r q := by
    refine pa.run hE r (pa.mono (fun l x δ1 h1 => ?_) q)
    obtain ⟨⟨ds, np, ix⟩, h1⟩ := h1
    intro v hd1 H1 k1 r1 d1
    have dz := d1.ns r1.bs np
    obtain ⟨a, vs, rfl, hs, ha⟩ := d1.seq r1.bs ix
    rcases hs with hs | hs
    · refine .inl ⟨.inl ⟨rfl, vs, nt_in.seq hs.2⟩, pb.run hE r1 (pb.mono (fun m y δ2 h2 => ?_) h1)⟩
      intro u hd2 H2 k2 r2 d2
      obtain ⟨ys, z, i, ey, zm, q⟩ := h2
      subst ey
      have := d2.str r2.bs
      subst this
      obtain ⟨a', vs', e', hs', ha'⟩ := (d1.kp r1.bs k2).seq r2.bs i
      cases e'
      have ev := strs_of ha'
      subst ev
      obtain ⟨g1, g2⟩ := ixO_at zm
      rcases hs' with hs' | hs'
      · exact ⟨a, ys, z, _, rfl, rfl, nt_in.seq hs'.2, g1, g2, q _ _ _ (k1.trans k2) r2 (.int _)⟩
      · rw [hs.1] at hs'; cases hs'.1
    · refine .inr ⟨⟨a, rfl, by rw [hs.1] at dz; cases dz with | tup _ nd _ => exact nd.same nt_in⟩, pb.run hE r1 (pb.mono (fun m y δ2 h2 => ?_) h1)⟩
      intro u hd2 H2 k2 r2 d2
      obtain ⟨ys, z, i, ey, zm, q⟩ := h2
      subst ey
      have := d2.str r2.bs
      subst this
      obtain ⟨a', vs', e', hs', ha'⟩ := (d1.kp r1.bs k2).seq r2.bs i
      cases e'
      have ev := strs_of ha'
      subst ev
      obtain ⟨g1, g2⟩ := ixO_at zm
      rcases hs' with hs' | hs'
      · rw [hs.1] at hs'; cases hs'.1
      · exact ⟨a, ys, z, _, rfl, rfl, Same.seqT nt_in hs'.2, g1, g2, q _ _ _ (k1.trans k2) r2 (.int _)⟩
/-! ### raise -/
def sRaise (C : Addr) (w : TDa) : TDs := fun X _ δ => w X δ fun ds _ => ∃ d, ds = [d] ∧ X C d
instance {C : Addr} {t : TA} {w : TDa} [p : PuV K E t w] : PuS K E (tRaiseWhat C (fun cls d _ H => E cls d H) t) (sRaise C w) where
  mono h := p.mono fun _ _ q => q
  run {F hd σ H δ P D} hE r e q := p.run hE r (p.mono (fun ds δ1 ⟨d, ed, x⟩ vs hd1 H1 k1 r1 d1 => by
    subst ed
    cases d1 with
    | @cons v _ _ _ a t =>
      cases t
      refine ⟨v, rfl, fun b nb => ?_⟩
      show E (.ref C) (some b) _
      rw [← hE]
      refine F.ex C d b v _ x (r1.fresh nb).2.1 (fun c o h tt => ?_) (fun b' q' z' => ((r1.cat b' (F.tbT b' q' z')).1 q' z').ext (Same.new nb)) upd_same ?_
      · rw [upd_ne (ne_of_none (r1.bs.ev c o h tt) nb)]; exact r1.bs.ev c o h tt
      · exact Dz.same (vis_over (hd := hd1)) (Dz.same (vis_same r1.bs (Same.new nb)) a)) q)
/-! ### slices of lists and tuples alike -/
def rSlQ (K : PySem.W.Frag) : V → Option Int → Option Int → Hp → VK → Prop := fun x lo hi H Q => rSlL K x lo hi H Q ∨ rSlTZ K x lo hi H Q
def cutD (d : PyData) (lo hi : Option Int) : PyData := match d with
  | .list ds => .list (cutG ds lo hi) | .tuple ds => .tuple (cutG ds lo hi) | d => d
def fSlQ : Lv → PyData → Option Int → Option Int → (PyData → Prop) → Prop := fun l x lo hi Q => ∃ ds, Items x ds ∧ l = .V ∧ Q (cutD x lo hi)
instance {t : TE} {tl th : TO} {w : TRd} {wl wh : TDo} [p : PuR K E t w] [pl : PuO K E tl wl] [ph : PuO K E th wh] : PuE K E (tSl (rSlQ K) t tl th) (dSl fSlQ w wl wh) where
  mono h := p.mono fun _ _ _ => pl.mono fun _ _ => ph.mono fun _ _ ⟨ds, e, c, q⟩ => ⟨ds, e, c, h _ _ q⟩
  run hE r q := sl3 (t := t) (tl := tl) (th := th) hE r q fun l x lo hi δ1 v hd1 H1 k1 r1 d1 ⟨ds, e, c, q⟩ => by
    subst c
    have d1' : Dz K (vis _ hd1 H1) v x := d1
    obtain ⟨a, vs, rfl, hs, ha⟩ := d1.seq r1.bs e
    have ha : DzAll K (vis _ hd1 H1) vs ds := ha
    rcases hs with hs | hs
    · have e := hs.1
      subst e
      exact .inl ⟨a, vs, rfl, nt_in.seq hs.2, fun p np => newLst r1 np (dp_cut ha) (q.kp k1)⟩
    · have e := hs.1
      subst e
      refine .inr ⟨a, vs, rfl, Same.seqT nt_in hs.2, fun hw => ?_, fun _ p ob np nd => newTup r1 np nd (dp_cut ha) (q.kp k1)⟩
      have q : Out K _ _ _ _ _ (.tuple (cutG ds lo hi)) _ := q
      rw [cutG_whole (by rw [← DzAll.len ha]; exact hw)] at q
      exact q _ _ _ k1 r1 d1'
/-! ### an error that is kept -/
end
end Rp

/-! Who was passed over for whom: uppers, and which likings lead to a row. -/
namespace Rp
open PySem PySem.Spec PyProof.Rows L2
theorem inAll_iff {z o : List Str} : inAll z o = true ↔ ∀ x ∈ z, x ∈ o := by simp [inAll]
theorem inOne_iff {ls : List (List Str)} {o : List Str} : inOne ls o = true ↔ ∃ z ∈ ls, ∀ x ∈ z, x ∈ o := by
  unfold inOne
  rw [List.any_eq_true]
  exact ⟨fun ⟨z, h, e⟩ => ⟨z, h, inAll_iff.mp e⟩, fun ⟨z, h, e⟩ => ⟨z, h, inAll_iff.mpr e⟩⟩
theorem inOne_mono {ls : List (List Str)} {o o' : List Str} (s : ∀ x ∈ o, x ∈ o') (h : inOne ls o = true) : inOne ls o' = true := by
  obtain ⟨z, h1, h2⟩ := inOne_iff.mp h
  exact inOne_iff.mpr ⟨z, h1, fun x hx => s x (h2 x hx)⟩
theorem ripe_iff {G : Gr} {o : List Str} {z : Str} : z ∈ ripeG G o ↔ ∃ p ∈ G, p.1 = z ∧ z ∉ o ∧ inOne p.2 o = true := by
  refine ⟨ripe_mem, fun ⟨p, hp, e, h1, h2⟩ => ?_⟩
  unfold ripeG
  refine List.mem_map.mpr ⟨p, List.mem_filter.mpr ⟨hp, ?_⟩, e⟩
  rw [e]
  simp [h1, h2]
/-! ### the first of a liking -/
theorem ixO_cons_self (z : Str) (r : List Str) : ixO (z :: r) z = 0 := by simp [ixO, List.findIdx_cons]
theorem ixO_cons_ne {a z : Str} (r : List Str) (h : a ≠ z) : ixO (a :: r) z = ixO r z + 1 := by simp [ixO, List.findIdx_cons, h]
theorem ixO_inj {l : List Str} {x y : Str} (hx : x ∈ l) (hy : y ∈ l) (h : ixO l x = ixO l y) : x = y := by
  have a := (ixO_at hx).1
  have b := (ixO_at hy).1
  rw [h, b] at a
  cases a; rfl
theorem first_of : ∀ {lk : List Str} {p : Str → Bool} {f : Str}, f ∈ lk → p f = true → (∀ z ∈ lk, p z = true → z = f ∨ ixO lk f < ixO lk z) → (lk.filter p).take 1 = [f]
  | [], _, _, h, _, _ => by cases h
  | a :: r, p, f, hf, pf, h => by
    by_cases pa : p a = true
    · rcases h a List.mem_cons_self pa with rfl | h
      · simp [List.filter_cons, pa]
      · rw [ixO_cons_self] at h; omega
    · have fa : a ≠ f := fun e => pa (by rw [e]; exact pf)
      have fr : f ∈ r := (List.mem_cons.mp hf).resolve_left fun e => fa e.symm
      rw [List.filter_cons, if_neg pa]
      refine first_of fr pf fun z hz pz => ?_
      have za : a ≠ z := fun e => pa (by rw [e]; exact pz)
      rcases h z (List.mem_cons_of_mem _ hz) pz with e | e
      · exact .inl e
      · rw [ixO_cons_ne r fa, ixO_cons_ne r za] at e; exact .inr (by omega)
theorem of_first : ∀ {lk : List Str} {p : Str → Bool} {f : Str}, (lk.filter p).take 1 = [f] → ∀ z ∈ lk, p z = true → z = f ∨ ixO lk f < ixO lk z
  | [], _, _, h, z, hz, _ => by cases hz
  | a :: r, p, f, h, z, hz, pz => by
    by_cases pa : p a = true
    · have e : a = f := by simp [List.filter_cons, pa] at h; exact h
      subst e
      by_cases az : a = z
      · exact .inl az.symm
      · right; rw [ixO_cons_self, ixO_cons_ne r az]; omega
    · rw [List.filter_cons, if_neg pa] at h
      have za : a ≠ z := fun e => pa (by rw [e]; exact pz)
      have zr : z ∈ r := (List.mem_cons.mp hz).resolve_left fun e => za e.symm
      have fm : f ∈ r.filter p := List.mem_of_mem_take (by rw [h]; exact List.mem_cons_self)
      have fa : a ≠ f := fun e => pa (by rw [e]; exact (List.mem_filter.mp fm).2)
      rcases of_first h z zr pz with e | e
      · exact .inl e
      · right; rw [ixO_cons_ne r fa, ixO_cons_ne r za]; omega
/-! ### uppers -/
def upOf (G : Gr) (row : List Str) (k : Nat) : Option Str := (row.drop (k + 1)).find? fun z => decide (z ∈ ripeG G (row.take k))
theorem pickN_take {G : Gr} {lk : List Str} : ∀ (m n : Nat), n ≤ m → (pickN G lk m).take n = pickN G lk n
  | 0, n, h => by have : n = 0 := by omega
                  subst this; simp [pickN]
  | m + 1, n, h => by
    by_cases c : n = m + 1
    · subst c
      exact List.take_of_length_le (pickN_len G lk (m + 1))
    · have ih := pickN_take (G := G) (lk := lk) m n (by omega)
      have ok := pickN_ok G lk m
      rcases ok.2.2.2 with l | l
      · rw [pickN, pickStep, List.take_append_of_le_length (by omega)]; exact ih
      · have e : lk.filter (fun f => decide (f ∈ ripeG G (pickN G lk m))) = [] := by
          rw [List.filter_eq_nil_iff]
          intro z hz
          simpa using l z hz
        rw [pickN, pickStep, e]; simpa using ih
/-! ### ripe from when -/
end Rp

/-! try .. except (A, B) as error: name = error, at the level without the heap; errors that are kept. -/
namespace Rp
open PySem PySem.Spec PyProof.Rows L2
section
variable {K : PySem.W.Frag} {E : XK}
abbrev YX := Addr → PyData → DS → Prop
abbrev TDb := YX → TDs
/-- what is wished where the body refuses -/
def YOk (K : PySem.W.Frag) (F : Frm K) (hd : Addr → Prop) (σ : L2.St) (H : Hp) (Y : YX) (W : WX) : Prop := ∀ C d δ' e v hd' H', Go F hd H hd' H' → Rep K F hd' σ H' δ' → vis F hd' H' e = some (.xd [(("what" : Str), v)]) → Dz K (vis F hd' H') v d → Y C d δ' → W (.ref C) (some e) σ H'
theorem YOk.go {F : Frm K} {hd hd1 : Addr → Prop} {σ : L2.St} {H H1 : Hp} {δ1 : DS} {Y : YX} {W : WX} (r1 : Rep K F hd1 σ H1 δ1) (g : Go F hd H hd1 H1) (h : YOk K F hd σ H Y W) : YOk K F hd1 σ H1 Y W :=
  fun C d δ' e v hd' H' g' r' => h C d δ' e v hd' H' (g.trans r1.bs r'.bs g') r'
class PuB (K : PySem.W.Frag) (E : XK) (tb : WX → TS) (w : outParam TDb) : Prop where
  mono : ∀ {X : XP} {δ : DS} {P P' : DEnds} {Y Y' : YX}, P.Le P' → (∀ C d δ, Y C d δ → Y' C d δ) → w Y X P δ → w Y' X P' δ
  run : ∀ {F : Frm K} {hd : Addr → Prop} {σ : L2.St} {H : Hp} {δ : DS} {P : DEnds} {D : L2.Ends} {Y : YX} {W : WX}, F.E = E → Rep K F hd σ H δ → EOk K F hd H P D → YOk K F hd σ H Y W → w Y F.X P δ → tb W D σ H
theorem callS_run {al : List Bool} {s : WF} {F : Frm K} {hd hd1 : Addr → Prop} {σ : L2.St} {H H1 : Hp} {δ1 : DS} {Q : VK} {vs : List V} {ds : List PyData} {Y : YX} {W : WX} (k1 : Kp F hd H hd1 H1) (r1 : Rep K F hd1 σ H1 δ1) (d1 : ArgsV K (vis F hd1 H1) (ntH F H1) al vs ds) (hY : YOk K F hd σ H Y W)
    (q : s.wp ds 0 (fun d _ => Out K F hd σ H Q d δ1) (fun C d => Y C d δ1)) : spF K al s vs H1 Q (WE W σ) := by
  refine call_run k1 r1 d1 q fun C d z e v H' ne sH he dv => ?_
  obtain ⟨f1, f2, f3⟩ := r1.fresh ne
  exact hY C d δ1 e v hd1 H' ((k1.trans (.of_same sH)).go) (r1.same sH) (by rw [vis_new f1 f2]; exact he) (Dz.same (over_vis r1 fun b o h _ => sH b o h) dv) z
def bDrop (s : WF) (w : TDa) : TDb := fun Y X P δ => w X δ fun ds δ1 => s.wp ds 0 (fun _ _ => P.nx δ1) (fun C d => Y C d δ1)
instance {al : List Bool} {s : WF} {t : TA} {w : TDa} [p : PuA K E al t w] : PuB K E (fun W => tDrop (tCallS (spF K al s) (WE W) t)) (bDrop s w) where
  mono h hy := p.mono fun _ _ q => WF.mono (fun _ _ q => h.nx _ q) (fun _ _ z => hy _ _ _ z) q
  run hE r e hY q := p.run hE r (p.mono (fun ds δ1 q vs hd1 H1 k1 r1 d1 => callS_run k1 r1 d1 hY (WF.mono (fun d _ q v hd2 H2 k2 r2 _ => e.nx _ _ _ _ k2.go r2 q) (fun _ _ z => z) q)) q)
def bAsg (s : WF) (w : TDa) (wg : TDg) : TDb := fun Y X P δ => w X δ fun ds δ1 => s.wp ds 0 (fun d _ => wg .V d δ1 P.nx) (fun C d => Y C d δ1)
instance {al : List Bool} {s : WF} {t : TA} {w : TDa} {g : TG} {is : List Nat} {wg : TDg} [p : PuA K E al t w] [pg : PuG K g is wg] : PuB K E (fun W => tAsg (tCallS (spF K al s) (WE W) t) g) (bAsg s w wg) where
  mono h hy := p.mono fun _ _ q => WF.mono (fun _ _ q => pg.mono (fun _ q => h.nx _ q) q) (fun _ _ z => hy _ _ _ z) q
  run hE r e hY q := p.run hE r (p.mono (fun ds δ1 q vs hd1 H1 k1 r1 d1 => callS_run k1 r1 d1 hY (WF.mono (fun d _ q v hd2 H2 k2 r2 dv => pg.run (l := .V) r2 dv (pg.mono (fun δ2 q σ2 r3 _ _ _ => e.nx _ _ _ _ k2.go r3 q) q)) (fun _ _ z => z) q)) q)
def bIf (wc : TDt) (w u : TDb) : TDb := fun Y X P δ => wc X δ fun b δ1 => if b = true then w Y X P δ1 else u Y X P δ1
instance {tc : TT} {t u : WX → TS} {wc : TDt} {w x : TDb} [pc : PuT K E tc wc] [p : PuB K E t w] [q : PuB K E u x] : PuB K E (fun W => tIfS tc (t W) (u W)) (bIf wc w x) where
  mono h hy := pc.mono fun b _ z => by
    cases b with
    | true => exact p.mono h hy z
    | false => exact q.mono h hy z
  run {F hd σ H δ P D Y W} hE r e hY z := pc.run hE r (pc.mono (fun b δ1 z hd1 H1 k1 r1 => by
    cases b with
    | true => exact p.run hE r1 (e.go r1 k1.go) (hY.go r1 k1.go) z
    | false => exact q.run hE r1 (e.go r1 k1.go) (hY.go r1 k1.go) z) z)
/-- the whole try -/
def tTryH (K : PySem.W.Frag) (cs : List Value) (i ct : Nat) (tb : WX → TS) : TS := fun D σ H => tb (wHeld K cs i (fun _ => tAsg (tVar i) (gName ct)) D) D σ H
def sTry (K : PySem.W.Frag) (cs : List Value) (i ct : Nat) (w : TDb) : TDs := fun X P δ => w (fun C d δ' => PySem.W.exmAny K (.ref C) cs = some true ∧ i < δ'.v.length ∧ P.nx ⟨((δ'.v.set i .no).set ct (.obj (.exc C d))).set i .no, δ'.n⟩) X P δ
theorem Rep.setObj {F : Frm K} {hd : Addr → Prop} {σ : L2.St} {H : Hp} {δ : DS} (r : Rep K F hd σ H δ) {i : Nat} {v : V} {o : Ob} (h : ObAt K (vis F hd H) v o) : Rep K F hd (σ.set i (some v)) H ⟨δ.v.set i (.obj o), δ.n⟩ := r.set (fun σ' _ e => ⟨v, e, h⟩) (fun _ z => by cases z)
instance {cs : List Value} {i ct : Nat} {tb : WX → TS} {w : TDb} [p : PuB K E tb w] : PuS K E (tTryH K cs i ct tb) (sTry K cs i ct w) where
  mono h := p.mono h fun _ _ _ ⟨a, l, q⟩ => ⟨a, l, h.nx _ q⟩
  run {F hd σ H δ P D} hE r e q := p.run hE r e (fun C d δ' x v hd' H' g' r' hx dv ⟨ex, il, q⟩ => by
    refine ⟨C, x, rfl, rfl, ex, fun a na => ⟨.ref a, List.getElem?_set_self (by rw [r'.len]; exact il), ?_⟩⟩
    obtain ⟨k, r2, s2⟩ := r'.new (ExH a C x) na
    have r3 := ((r2.drop (i := i) (o := some (.ref a))).setObj (i := ct) (v := .ref a) (o := .exc C d) ⟨a, x, v, rfl, r'.seen na, s2 _ _ hx, Dz.same s2 dv⟩).drop (i := i) (o := none)
    exact e.nx _ _ _ _ (g'.trans r'.bs r2.bs k.go) r3 q) q
theorem ps_tryH {X : Cx} {n : Str} {i ct : Nat} {body suite : List Stmt} {b0 : Stmt} {es : List Expr} {kt : Nat} {tpos pos pos' : Pos} {tb : WX → TS} {cs : List Value} (hs : X.stack = X.env :: X.outer) (hf : X.env.frame = some X.env.locals) (hN : X.N.Nodup) (hi : X.N[i]? = some n) (hln : X.env.kindOf n = some .local) (hex : X.ex = []) (hlen : cs.length ≤ sizeLine)
    (hE : ExmTup X.K cs) (hnm : ∀ (a : Addr) (pn : List (Addr × Obj)), NmOk (X.suite a pn) es cs)
    (hb : ∀ (W : WX) (pn : List (Addr × Obj)) (xe : Value → Shared → Prop), Takes (X.tr pn xe) W → PassesOwn (model X.prog X.w) X.A X.env xe → PSs (X.tr pn xe) body (tb W))
    (hsu : ∀ (a : Addr) (pn : List (Addr × Obj)), PSs (X.suite a pn) (b0 :: suite) (tAsg (tVar i) (gName ct))) :
    PS X (.Try body [.ExceptHandler (some (.Tuple es kt tpos)) (some n) (b0 :: suite) pos'] [] [] pos) (tTryH X.K cs i ct tb) :=
  ps_try_held (ts := fun _ => tAsg (tVar i) (gName ct)) hs hf hN hi hln hex hlen hE hnm hb hsu
/-! ### a kept error is asked -/
def dIsH (K : PySem.W.Frag) (i : Nat) (c : V) : TD := fun _ δ Q => ∃ C d u b, δ.v[i]? = some (.obj (.exc C d)) ∧ IsC K C ∧ ClsV c u ∧ PySem.W.kitOne K (.ref C) u = some b ∧ Q (.bool b) δ
theorem vis_in {F : Frm K} {hd : Addr → Prop} {σ : L2.St} {H : Hp} {δ : DS} (r : Rep K F hd σ H δ) : Same (vis F hd H) H := ((vis_rd r.bs).trans rd_nt).trans nt_in
instance {i : Nat} {c : V} : PuE K E (tCB (rIsH K) (tCons (tVar i) (tCons (tC c) tNil))) (dIsH K i c) where
  mono h := fun ⟨C, d, u, b, e1, e2, e3, e4, q⟩ => ⟨C, d, u, b, e1, e2, e3, e4, h _ _ q⟩
  run {F hd σ H δ Q} _ r := fun ⟨C, d, u, b, e1, e2, e3, e4, q⟩ => by
    obtain ⟨v, h1, a, dd, w, rfl, g1, g2, g3⟩ := r.vars i _ e1
    have s := vis_in r
    exact ⟨.ref a, h1, a, C, dd, _, c, u, b, rfl, s _ _ g1, s _ _ g2, e2, e3, e4, q _ _ _ .refl r (.bl _)⟩
def dWhat (K : PySem.W.Frag) (i : Nat) : TD := fun _ δ Q => ∃ C d, δ.v[i]? = some (.obj (.exc C d)) ∧ IsC K C ∧ PySem.W.findIn K (.ref C) "what" = some none ∧ Q d δ
instance {i : Nat} : PuE K E (tWhatH K (tVar i)) (dWhat K i) where
  mono h := fun ⟨C, d, e1, e2, e3, q⟩ => ⟨C, d, e1, e2, e3, h _ _ q⟩
  run {F hd σ H δ Q} _ r := fun ⟨C, d, e1, e2, e3, q⟩ => by
    obtain ⟨v, h1, a, dd, w, rfl, g1, g2, g3⟩ := r.vars i _ e1
    have s := vis_in r
    exact ⟨.ref a, h1, a, C, dd, w, rfl, s _ _ g1, s _ _ g2, e2, e3, q _ _ _ .refl r g3⟩
/-- isinstance(e, (A, B)) -/
def dIsHT (K : PySem.W.Frag) (i : Nat) (c1 c2 : V) : TD := fun _ δ Q => ∃ C d u1 u2 b, δ.v[i]? = some (.obj (.exc C d)) ∧ IsC K C ∧ ClsV c1 u1 ∧ ClsV c2 u2 ∧ PySem.W.kitAny K (.ref C) [u1, u2] = some b ∧ Q (.bool b) δ
end
end Rp

/-! pop and insert of one's own list. -/
namespace Rp
open PySem PySem.Spec PyProof.Rows L2
def rInsert : V → List V → Hp → VK → Prop := fun x vs H Q => ∃ (l : Addr) (xs : List V) (i : Int) (y : V), x = .ref l ∧ vs = [.int i, y] ∧ H l = some (.lst xs) ∧ xs.length < sizeLine ∧ 0 ≤ i ∧ i < 2 ^ 63 ∧ Q .non (upd H l (.lst (xs.take i.toNat ++ [y] ++ xs.drop i.toNat)))
section
variable {K : PySem.W.Frag} {E : XK}
theorem dz_erase {H : Hp} : ∀ (k : Nat) {vs : List V} {ds : List PyData}, DzAll K H vs ds → DzAll K H (vs.eraseIdx k) (ds.eraseIdx k)
  | _, _, _, .nil => .nil
  | 0, _, _, .cons _ t => t
  | k + 1, _, _, .cons a t => .cons a (dz_erase k t)
theorem own_of {δ : DS} {i : Nat} (eo : isOwL δ.v[i]? = true) : ∃ ds, δ.v[i]? = some (AV.own ds) := by
  cases h : δ.v[i]? with
  | none => rw [h] at eo; cases eo
  | some a => cases a <;> first | exact ⟨_, rfl⟩ | (rw [h] at eo; cases eo)
/-- x = xs.pop(e) -/
def sPop (i j : Nat) (w : TRd) : TDs := fun X P δ => isOwL δ.v[i]? = true ∧ w X δ fun _ y δ1 => ∃ ds k d, δ1.v[i]? = some (AV.own ds) ∧ y = .int (k : Nat) ∧ k < 2 ^ 62 ∧ ds[k]? = some d ∧ P.nx ⟨(δ1.v.set i (.own (ds.eraseIdx k))).set j (.dat d), δ1.n⟩
instance {i j : Nat} {t : TE} {w : TRd} [p : PuR K E t w] : PuS K E (tAsg (tBM K "list" rPopAt (tVar i) (tCons t tNil)) (gName j)) (sPop i j w) where
  mono h := fun ⟨e, q⟩ => ⟨e, p.mono (fun _ _ _ ⟨ds, k, d, e, a, b, c, q⟩ => ⟨ds, k, d, e, a, b, c, h.nx _ q⟩) q⟩
  run {F hd σ H δ P D} hE r e := fun ⟨eo, q⟩ => by
    obtain ⟨ds0, e0⟩ := own_of eo
    obtain ⟨a, vs, h1, h2, h3, h4⟩ := r.vars i _ e0
    refine ⟨_, h1, .inl ⟨rfl, vs, .inl (.inl h3)⟩, p.run hE r (p.mono (fun l y δ1 ⟨ds, k, d, e1, ey, kl, ek, q⟩ v hd1 H1 k1 r1 d1 => ?_) q)⟩
    subst ey
    have := d1.int r1.bs
    subst this
    obtain ⟨a', vs', g1, g2, g3, g4⟩ := r1.vars i _ e1
    rw [h1] at g1; cases g1
    have lv : k < vs'.length := by rw [DzAll.len g4]; exact (List.getElem?_eq_some_iff.mp ek).1
    obtain ⟨d', f1, f2⟩ := DzAll.at g4 (List.getElem?_eq_getElem lv)
    rw [ek] at f1; cases f1
    obtain ⟨gg, rr⟩ := r1.store (vs := vs') e1 h1 (dz_erase k g4)
    refine ⟨a, vs', k, k, vs'[k], rfl, rfl, g3, by omega, by omega, ?_, List.getElem?_eq_getElem lv, ?_⟩
    · unfold seqIndex?
      simp
      omega
    · exact e.nx _ _ _ _ (k1.go.trans r1.bs rr.bs gg) (rr.setDat (i := j) (by rw [vis_hid g2.1]; exact f2)) q
/-- xs.insert(e, x) -/
def sIns (i : Nat) (wa : TRd) (wb : TD) : TDs := fun X P δ => isOwL δ.v[i]? = true ∧ wa X δ fun _ y δ1 => wb X δ1 fun d δ2 => ∃ ds k, δ2.v[i]? = some (AV.own ds) ∧ y = .int (k : Nat) ∧ k < 2 ^ 62 ∧ ds.length < sizeLine ∧ P.nx ⟨δ2.v.set i (.own (ds.take k ++ [d] ++ ds.drop k)), δ2.n⟩
instance {i : Nat} {ta tb : TE} {wa : TRd} {wb : TD} [pa : PuR K E ta wa] [pb : PuE K E tb wb] : PuS K E (tDrop (tBM K "list" rInsert (tVar i) (tCons ta (tCons tb tNil)))) (sIns i wa wb) where
  mono h := fun ⟨e, q⟩ => ⟨e, pa.mono (fun _ _ _ => pb.mono fun _ _ ⟨ds, k, e, a, b, c, q⟩ => ⟨ds, k, e, a, b, c, h.nx _ q⟩) q⟩
  run {F hd σ H δ P D} hE r e := fun ⟨eo, q⟩ => by
    obtain ⟨ds0, e0⟩ := own_of eo
    obtain ⟨a, vs, h1, h2, h3, h4⟩ := r.vars i _ e0
    refine ⟨_, h1, .inl ⟨rfl, vs, .inl (.inl h3)⟩, pa.run hE r (pa.mono (fun l y δ1 q v hd1 H1 k1 r1 d1 => pb.run hE r1 (pb.mono (fun d δ2 ⟨ds, k, e1, ey, kl, dl, qq⟩ u hd2 H2 k2 r2 d2 => ?_) q)) q)⟩
    subst ey
    have := d1.int r1.bs
    subst this
    obtain ⟨a', vs', g1, g2, g3, g4⟩ := r2.vars i _ e1
    rw [h1] at g1; cases g1
    obtain ⟨gg, rr⟩ := r2.store (vs := vs') e1 h1 (dpAll_app (dpAll_app (dp_take k g4) (.cons d2 .nil)) (dp_drop k g4))
    refine ⟨a, vs', k, u, rfl, rfl, g3, by rw [DzAll.len g4]; exact dl, by omega, by omega, ?_⟩
    exact e.nx _ _ _ _ ((k1.trans k2).go.trans r2.bs rr.bs gg) rr qq
/-! ### a new list, then something else: a, b = [..], y -/
theorem Rep.mk_more {F : Frm K} {hd : Addr → Prop} {σ : L2.St} {H : Hp} {δ : DS} {p : Addr} (r1 : Rep K F hd σ H δ) (r2 : Rep K F (fun b => hd b ∨ b = p) σ H δ) (np : ¬ hd p) : Rep K (F.more p) (fun b => hd b ∨ b = p) σ H δ := by
  refine ⟨⟨r2.bs.ev, r2.bs.tp, r2.bs.hn, r2.bs.hs⟩, r2.len, fun i a e => ?_, r2.cat, fun b z => z.elim (fun z => .inl (r1.nH b z)) .inr, r2.sep⟩
  have h := r2.vars i a e
  cases a with
  | no => trivial
  | dat d => exact h
  | rd d => exact h
  | own ds =>
    obtain ⟨a, vs, h1, h2, h3, h4⟩ := h
    obtain ⟨a', vs', g1, g2, _⟩ := r1.vars i _ e
    rw [h1] at g1; cases g1
    exact ⟨a, vs, h1, ⟨h2.1, fun z => z.elim h2.2 fun z => np (by rw [← z]; exact g2.1)⟩, h3, h4⟩
  | tape => exact h
  | obj o => exact h
  | down o =>
    obtain ⟨a, vs, h1, h2, h3, h4⟩ := h
    obtain ⟨a', vs', g1, g2, _⟩ := r1.vars i _ e
    rw [h1] at g1; cases g1
    exact ⟨a, vs, h1, ⟨h2.1, fun z => z.elim h2.2 fun z => np (by rw [← z]; exact g2.1)⟩, h3, h4⟩
theorem Rep.un_more {F : Frm K} {hd : Addr → Prop} {σ : L2.St} {H : Hp} {δ : DS} {p : Addr} (r : Rep K (F.more p) hd σ H δ) (nN : ¬ F.N p) : Rep K F hd σ H δ ∧ Rep K F (fun b => hd b ∧ b ≠ p) σ H δ := by
  have rF : Rep K F hd σ H δ := by
    refine ⟨⟨r.bs.ev, r.bs.tp, r.bs.hn, r.bs.hs⟩, r.len, fun i a e => ?_, r.cat, fun b z => r.nH b (.inl z), r.sep⟩
    have h := r.vars i a e
    cases a with
    | no => trivial
    | dat d => exact h
    | rd d => exact h
    | own ds =>
      obtain ⟨a, vs, h1, h2, h3, h4⟩ := h
      exact ⟨a, vs, h1, ⟨h2.1, fun z => h2.2 (.inl z)⟩, h3, h4⟩
    | tape => exact h
    | obj o => exact h
    | down o =>
      obtain ⟨a, vs, h1, h2, h3, h4⟩ := h
      exact ⟨a, vs, h1, ⟨h2.1, fun z => h2.2 (.inl z)⟩, h3, h4⟩
  refine ⟨rF, ?_⟩
  have k : Kp F hd H (fun b => hd b ∧ b ≠ p) H := ⟨fun _ _ e _ => e, fun _ e => e.1⟩
  have vg := vis_go rF.bs k.go
  refine ⟨rF.bs.kp k rF.bs.tp, rF.len, fun i a e => ?_, rF.cat, fun b z => ⟨rF.nH b z, fun e => nN (by rw [← e]; exact z)⟩, rF.sep⟩
  have h := r.vars i a e
  cases a with
  | no => trivial
  | dat d => exact h.elim fun v h => ⟨v, h.1, Dz.same vg h.2⟩
  | rd d => exact h.elim fun v h => ⟨v, h.1, Dz.same (rd_go k.go) h.2⟩
  | own ds =>
    obtain ⟨a, vs, h1, h2, h3, h4⟩ := h
    exact ⟨a, vs, h1, ⟨⟨h2.1, fun z => h2.2 (.inr z)⟩, fun z => h2.2 (.inl z)⟩, h3, DzAll.same vg h4⟩
  | tape => exact h
  | obj o => exact h.elim fun v h => ⟨v, h.1, ObAt.same vg h.2⟩
  | down o =>
    obtain ⟨a, vs, h1, h2, h3, h4⟩ := h
    exact ⟨a, vs, h1, ⟨⟨h2.1, fun z => h2.2 (.inr z)⟩, fun z => h2.2 (.inl z)⟩, h3, OwnO.same vg h4⟩
def sParO (i j : Nat) (wa : TDa) (wb : TD) : TDs := fun X P δ => wa X δ fun ds δ1 => wb X δ1 fun y δ2 => P.nx ⟨(δ2.v.set i (.own ds)).set j (.dat y), δ2.n⟩
instance (priority := 800) {i j : Nat} {ta tb : TE} {wa : TDa} {wb : TD} [pa : PuN K E ta wa] [pb : PuE K E tb wb] : PuS K E (tPar i j (tCons ta (tCons tb tNil))) (sParO i j wa wb) where
  mono h := pa.mono fun _ _ => pb.mono fun _ _ q => h.nx _ q
  run {F hd σ H δ P D} hE r e q := pa.run hE r (pa.mono (fun ds δ1 q p vs hd1 H1 k1 r1 r2 np n0 h1 dd => pb.run (F := F.more p) hE (r1.mk_more r2 np) (pb.mono (fun y δ2 q v hd2 H2 k2 r3 d3 => by
    have nT : ¬ F.T p := fun t => by have := F.ta p t; rw [n0.1] at this; cases this
    have nN : ¬ F.N p := fun z => np (r1.nH p z)
    have hp : hd2 p := r3.nH p (.inr rfl)
    obtain ⟨rF, r0⟩ := r3.un_more nN
    have ee : (fun b => (hd2 b ∧ b ≠ p) ∨ b = p) = hd2 := by
      funext b
      by_cases c : b = p
      · simp [c, hp]
      · simp [c]
    have g2 : Go F (fun b => hd1 b ∨ b = p) H1 hd2 H2 := ⟨fun b o h t _ => k2.kp b o h t, fun b z => .inl (k2.less b z)⟩
    have dd2 : DzAll K (vis F hd2 H2) vs ds := DzAll.same (vis_go r2.bs g2) dd
    have rO : Rep K F (fun b => (hd2 b ∧ b ≠ p) ∨ b = p) (σ.set i (some (.ref p))) H2 ⟨δ2.v.set i (.own ds), δ2.n⟩ := r0.setOwn (i := i) (by rw [ee]; exact rF) (fun z => z.2 rfl) (k2.kp _ _ h1 nT) (by rw [ee]; exact dd2)
    rw [ee] at rO
    have d3 : Dz K (vis F hd2 H2) v y := d3
    refine ⟨.ref p, v, rfl, e.nx _ _ _ _ ⟨fun b o h t n => k2.kp b o (k1.kp b o h t) t, fun b z => ?_⟩ (rO.setDat (i := j) d3) q⟩
    rcases k2.less b z with z | z
    · exact .inl (k1.less b z)
    · right; rw [z]; exact n0.2) q)) q)
end
end Rp

/-! What the defs of orchards, rows, uppers, likings promise. -/
namespace Rp
open PySem PySem.Spec PyProof.Rows L2
def natD : Option Nat → PyData
  | some k => .int (k : Nat) | none => .none
/-- a row that is handed in: the orchard, its names, and as what -/
structure RowIn (G : Gr) (row : List Str) (b : PyData) : Prop where
  ok : okGr G
  nm : okNm G
  nd : (G.map (·.1)).Nodup
  it : Items b (row.map .str)
  tx : okT row
  le : row.length ≤ 1000
/-- lists in the place of tuples: they come anew -/
def dLists (m : Nat) (w : TRd) : TD := fun X δ Q => w X δ fun _ x δ1 => (∃ k, m = k + 1 ∧ Deep k x) ∧ Q (listy x) δ1
theorem args_rev2' {K : PySem.W.Frag} {Hv Hn : Hp} {a b : Bool} {zs : List V} {ds : List PyData} (h : ArgsV K Hv Hn [b, a] zs ds) : ArgsV K Hv Hn [a, b] zs.reverse ds.reverse := by
  rcases zs with _ | ⟨z1, _ | ⟨z2, _ | ⟨z3, zs⟩⟩⟩ <;> rcases ds with _ | ⟨d1, _ | ⟨d2, _ | ⟨d3, ds⟩⟩⟩ <;> first
    | exact ⟨h.2.1, h.1, trivial⟩
    | exact absurd h (by simp [ArgsV])
end Rp

/-! xs + ys of any lists; how long a repr is. -/
namespace Rp
open PySem PySem.Spec PyProof.Rows L2
def rCatL (K : PySem.W.Frag) : R2 := fun x y H Q => ∃ l b xs zs, x = .ref l ∧ y = .ref b ∧ SqL K H l xs ∧ SqL K H b zs ∧ xs.length + zs.length ≤ sizeLine ∧ ∀ p, H p = none → Q (.ref p) (upd H p (.lst (xs ++ zs)))
section
variable {K : PySem.W.Frag} {E : XK}
def lCatL (wa wb : TRd) : TDa := fun X δ Q => wa X δ fun l x δ1 => wb X δ1 fun m y δ2 => ∃ ds es, x = .list ds ∧ y = .list es ∧ ds.length + es.length ≤ sizeLine ∧ okU l ds ∧ okU m es ∧ Q (ds ++ es) δ2
theorem catL_run {ta tb : TE} {wa wb : TRd} [pa : PuR K E ta wa] [pb : PuR K E tb wb] {F : Frm K} {hd : Addr → Prop} {σ : L2.St} {H : Hp} {δ : DS} {Q : VK} {Z : List PyData → DS → Prop} (hE : F.E = E) (r : Rep K F hd σ H δ)
    (q : lCatL wa wb F.X δ Z) (f : ∀ ds δ2 hd2 H2 p vs, Z ds δ2 → Kp F hd H hd2 H2 → Rep K F hd2 σ H2 δ2 → H2 p = none → DzAll K (vis F hd2 H2) vs ds → Q (.ref p) (upd H2 p (.lst vs))) : tOp (rCatL K) ta tb σ H Q :=
  bin2 (ta := ta) (tb := tb) hE r q fun l x m y δ2 v u hd2 H2 k r2 d1 d2 ⟨ds, es, ex, ey, hz, o1, o2, z⟩ => by
    subst ex ey
    obtain ⟨a, vs, rfl, hs, ha⟩ := d1.seq r2.bs (.inl rfl)
    obtain ⟨b, us, rfl, ht, hb⟩ := d2.seq r2.bs (.inl rfl)
    have hs : SqL K (ntH F H2) a vs := by
      rcases hs with hs | hs
      · exact hs.2
      · cases hs.1
    have ht : SqL K (ntH F H2) b us := by
      rcases ht with ht | ht
      · exact ht.2
      · cases ht.1
    exact ⟨a, b, vs, us, rfl, rfl, nt_in.seq hs, nt_in.seq ht, by rw [DzAll.len ha, DzAll.len hb]; exact hz, fun p np => f _ δ2 hd2 H2 p _ z k r2 np (dpAll_app (DzAll.upU ha o1) (DzAll.upU hb o2))⟩
theorem lCatL_mono {wa wb : TRd} {ta tb : TE} [pa : PuR K E ta wa] [pb : PuR K E tb wb] {X : XP} {δ : DS} {Q Q' : List PyData → DS → Prop} (h : ∀ d δ', Q d δ' → Q' d δ') : lCatL wa wb X δ Q → lCatL wa wb X δ Q' :=
  pa.mono fun _ _ _ => pb.mono fun _ _ _ ⟨ds, es, a, b, c, d, e, q⟩ => ⟨ds, es, a, b, c, d, e, h _ _ q⟩
instance {ta tb : TE} {wa wb : TRd} [pa : PuR K E ta wa] [pb : PuR K E tb wb] : PuL K E (tOp (rCatL K) ta tb) (lCatL wa wb) where
  mono h := lCatL_mono (K := K) (E := E) (ta := ta) (tb := tb) h
  run hE r q := catL_run (ta := ta) (tb := tb) hE r q fun ds δ2 hd2 H2 p vs z k r2 np d => newL r2 np d (z.kp k)
instance {ta tb : TE} {wa wb : TRd} [pa : PuR K E ta wa] [pb : PuR K E tb wb] : PuN K E (tOp (rCatL K) ta tb) (lCatL wa wb) where
  mono h := lCatL_mono (K := K) (E := E) (ta := ta) (tb := tb) h
  run hE r q := catL_run (ta := ta) (tb := tb) hE r q fun ds δ2 hd2 H2 p vs z k r2 np d => newN r2 np d (z.kp k)
instance {ta tb : TE} {wa wb : TRd} [pa : PuR K E ta wa] [pb : PuR K E tb wb] : PuE K E (tOp (rCatL K) ta tb) (dL (lCatL wa wb)) where
  mono h := lCatL_mono (K := K) (E := E) (ta := ta) (tb := tb) (fun _ _ q => h _ _ q)
  run hE r q := catL_run (ta := ta) (tb := tb) hE r q fun ds δ2 hd2 H2 p vs z k r2 np d => newLst r2 np d (z.kp k)
end
/-- the same, told on at once: it's data -/
def rCatD (K : PySem.W.Frag) : R2 := rCatL K
instance {K : PySem.W.Frag} {E : XK} {ta tb : TE} {wa wb : TRd} [pa : PuR K E ta wa] [pb : PuR K E tb wb] : PuE K E (tOp (rCatD K) ta tb) (dL (lCatL wa wb)) where
  mono h := lCatL_mono (K := K) (E := E) (ta := ta) (tb := tb) (fun _ _ q => h _ _ q)
  run hE r q := catL_run (ta := ta) (tb := tb) hE r q fun ds δ2 hd2 H2 p vs z k r2 np d => newLst r2 np d (z.kp k)
/-! ### shown -/
theorem Fine.up {W D W' D' : Nat} {d : PyData} (f : Fine W D d) (hw : W ≤ W') (hd : D ≤ D') : Fine W' D' d := ⟨f.lay, Nat.le_trans f.dep hd, Nat.le_trans f.wt hw, f.sho, f.show_, f.nod⟩
theorem fine_gr {zs : List Str} {G : Gr} (h : Grew zs G) (nm : ∀ z ∈ zs, IsName z) (hz : zs.length ≤ 26) : Fine 420000 31 (grD G) := by
  have gn : ∀ p ∈ G, IsName p.1 := fun p hp => nm _ (h.pm.mem_iff.mp (List.mem_map.mpr ⟨p, hp, rfl⟩))
  have gl : G.length ≤ 26 := by have := h.pm.length_eq; rw [List.length_map] at this; omega
  have ln : ∀ p ∈ G, ∀ z ∈ p.2, ∀ x ∈ z, IsName x := fun p hp z hz x hx => nm x ((((h.lots p hp).2 z hz).2.2 x hx).1)
  refine ⟨?_, ?_, ?_, (show_gr G).2.2, (show_gr G).1, (show_gr G).2.1⟩
  · simp only [PyData.canLay0]
    refine cl_all G fun p hp => ?_
    have := cl_all (f := txD) p.2 fun z hzz => by
      simp only [PyData.canLay0]
      exact lay_tx fun x hx => name_ok (ln p hp z hzz x hx)
    simp only [PyData.canLay0, PyData.canLayAll0, this, name_ok (gn p hp), Bool.and_self]
  · have := depth_gr G
    simp only [PyData.depth]
    omega
  · simp only [PyData.weight]
    have w0 := w_all (f := fruitD) (B := 15999) G fun p hp => by
      have l1 := (h.lots p hp).1
      have w1 := w_all (f := txD) (B := 234) p.2 fun z hzz => by
        simp only [PyData.weight]
        have l2 := ((h.lots p hp).2 z hzz).1
        have w2 := w_all (f := PyData.str) (B := 8) z fun x hx => by
          simp only [PyData.weight]
          exact (ln p hp z hzz x hx).2.1
        omega
      have n1 : p.1.cps.size ≤ 8 := (gn p hp).2.1
      simp only [PyData.weight, PyData.weightAll]
      have : p.2.length * 235 ≤ 64 * 235 := Nat.mul_le_mul_right _ (by omega)
      omega
    have : G.length * 16000 ≤ 26 * 16000 := Nat.mul_le_mul_right _ gl
    omega
theorem fine_names {zs : List Str} (nm : ∀ z ∈ zs, IsName z) (hz : zs.length ≤ 100) : Fine 2200 1 (.list (zs.map .str)) ∧ Fine 2200 1 (.tuple (zs.map .str)) :=
  ⟨fine_1 (tame_names (n := 0) nm hz).1, fine_1 (tame_names (n := 0) nm hz).2⟩
theorem fine_l2 {W1 W2 D : Nat} {a b : PyData} (fa : Fine W1 D a) (fb : Fine W2 D b) : Fine (W1 + W2 + 2) (D + 1) (.list [a, b]) := by
  have h1 := fa.dep
  have h2 := fa.wt
  have h3 := fb.dep
  have h4 := fb.wt
  refine ⟨by simp [PyData.canLay0, PyData.canLayAll0, fa.lay, fb.lay], by simp only [PyData.depth, PyData.depthAll]; omega, by simp only [PyData.weight, PyData.weightAll]; omega, by simp [PyData.intsShort, PyData.intsShortAll, fa.sho, fb.sho], by simp [PyData.showable, PyData.showableAll, fa.show_, fb.show_], by simp [PyData.hasDict, PyData.hasDictAll, fa.nod, fb.nod]⟩
end Rp

/-! dicts of texts at the level without the heap: dict(pairs), get, d[k], in; defs whose first argument is one. -/
namespace Rp
open PySem PySem.Spec PyProof.Rows L2
abbrev Mp := List (Str × PyData)
def mpK (m : Mp) : List (Key × PyData) := m.map fun p => (.inr p.1, p.2)
def lookM (m : Mp) (z : Str) : Option PyData := (m.find? fun p => decide (p.1 = z)).map (·.2)
def prsD (m : Mp) : PyData := .list (m.map fun p => .tuple [.str p.1, p.2])
def rDictP (K : PySem.W.Frag) : List V → Hp → VK → Prop := fun xs H Q => ∃ (a : Addr) (ps : List Addr) (kvs : List (Key × V)), xs = [.ref a] ∧ SqL K H a (ps.map V.ref) ∧ Paired (fun p kv => SqT K H p [kV kv.1, kv.2]) ps kvs ∧
    ∀ p, H p = none → Q (.ref p) (upd H p (.dK (mergeK [] kvs)))
theorem merge_nodup : ∀ {more acc : List (Key × V)}, ((acc ++ more).map (·.1)).Nodup → mergeK acc more = acc ++ more
  | [], acc, _ => by simp [mergeK]
  | kv :: more, acc, h => by
    have e : putK acc kv.1 kv.2 = acc ++ [kv] := by
      rw [putK_new]
      unfold valV
      rw [Option.map_eq_none_iff, List.find?_eq_none]
      intro p hp c
      have c : p.1 = kv.1 := by simpa using c
      rw [List.map_append, List.nodup_append] at h
      exact h.2.2 p.1 (List.mem_map.mpr ⟨p, hp, rfl⟩) kv.1 (by simp) c
    have ih := merge_nodup (more := more) (acc := acc ++ [kv]) (by simpa using h)
    unfold mergeK at ih ⊢
    rw [List.foldl_cons, e, ih]; simp
section
variable {K : PySem.W.Frag} {E : XK}
theorem dp_pairs {H : Hp} : ∀ {m : Mp} {vs : List V}, DzAll K H vs (m.map fun p => PyData.tuple [.str p.1, p.2]) → ∃ (ps : List Addr) (kvs : List (Key × V)), vs = ps.map V.ref ∧ Paired (fun p kv => SqT K H p [kV kv.1, kv.2]) ps kvs ∧ MapAt K H kvs (mpK m)
  | [], _, h => by cases h; exact ⟨[], [], rfl, .nil, rfl, .nil⟩
  | (z, d) :: m, _, h => by
    cases h with
    | cons a t =>
      obtain ⟨ps, kvs, h1, h2, h3⟩ := dp_pairs t
      cases a with
      | @tup p xs _ hs nd ha =>
        cases ha with
        | cons b c =>
          cases b
          cases c with
          | @cons v _ _ _ b c =>
            cases c
            refine ⟨p :: ps, (.inr z, v) :: kvs, by rw [h1]; rfl, .cons hs h2, ?_, .cons b h3.2⟩
            have := h3.1
            simp only [List.map_cons, mpK] at this ⊢
            rw [this]
theorem Paired.same {H H' : Hp} (s : Same H H') : ∀ {ps : List Addr} {kvs : List (Key × V)}, Paired (fun p kv => SqT K H p [kV kv.1, kv.2]) ps kvs → Paired (fun p kv => SqT K H' p [kV kv.1, kv.2]) ps kvs
  | _, _, .nil => .nil
  | _, _, .cons a t => .cons (Same.seqT s a) (Paired.same s t)
theorem MapAt.same {H H' : Hp} {kvs : List (Key × V)} {m : List (Key × PyData)} (s : Same H H') (h : MapAt K H kvs m) : MapAt K H' kvs m := ⟨h.1, DzAll.same s h.2⟩
/-- what is there -/
theorem MapAt.look {H : Hp} : ∀ {kvs : List (Key × V)} {m : Mp}, MapAt K H kvs (mpK m) → ∀ z : Str, (valV kvs (.inr z) = none ∧ lookM m z = none) ∨ ∃ v d, valV kvs (.inr z) = some v ∧ lookM m z = some d ∧ Dz K H v d
  | [], [], _, z => .inl ⟨rfl, rfl⟩
  | [], _ :: _, h, z => by have := h.1; simp [mpK] at this
  | _ :: _, [], h, z => by have := h.1; simp [mpK] at this
  | (k, v) :: kvs, (x, d) :: m, h, z => by
    have h1 := h.1
    have h2 := h.2
    simp only [mpK, List.map_cons] at h1 h2
    injection h1 with e1 e2
    cases h2 with
    | cons a t =>
      have e1 : k = Sum.inr x := e1
      subst e1
      by_cases c : x = z
      · subst c
        exact .inr ⟨v, d, valV_pos rfl, by simp [lookM], a⟩
      · have c' : ¬ (Sum.inr x : Key) = .inr z := fun e => c (Sum.inr.inj e)
        have l : lookM ((x, d) :: m) z = lookM m z := by simp [lookM, c]
        rw [valV_neg c', l]
        exact MapAt.look ⟨e2, t⟩ z
/-! ### dict(pairs) -/
def OutM (K : PySem.W.Frag) (F : Frm K) (hd : Addr → Prop) (σ : L2.St) (H : Hp) (Q : VK) (m : Mp) (δ' : DS) : Prop := ∀ v hd' H', Kp F hd H hd' H' → Rep K F hd' σ H' δ' → ObAt K (vis F hd' H') v (.map (mpK m)) → Q v H'
class PuM (K : PySem.W.Frag) (E : XK) (t : TE) (w : outParam (XP → DS → (Mp → DS → Prop) → Prop)) : Prop where
  mono : ∀ {X : XP} {δ : DS} {Q Q' : Mp → DS → Prop}, (∀ m δ', Q m δ' → Q' m δ') → w X δ Q → w X δ Q'
  run : ∀ {F : Frm K} {hd : Addr → Prop} {σ : L2.St} {H : Hp} {δ : DS} {Q : VK}, F.E = E → Rep K F hd σ H δ → w F.X δ (OutM K F hd σ H Q) → t σ H Q
abbrev TDm := XP → DS → (Mp → DS → Prop) → Prop
def mDict (w : TRd) : TDm := fun X δ Q => w X δ fun l x δ1 => ∃ m : Mp, x = prsD m ∧ l.ch = .V ∧ (m.map (·.1)).Nodup ∧ Q m δ1
instance {t : TE} {w : TRd} [p : PuR K E t w] : PuM K E (tCB (rDictP K) (tCons t tNil)) (mDict w) where
  mono h := p.mono fun _ _ _ ⟨m, a, b, c, q⟩ => ⟨m, a, b, c, h _ _ q⟩
  run hE r q := un1 (t := t) hE r q fun l x δ1 v hd1 H1 k1 r1 d1 ⟨m, ex, lc, nd, q⟩ => by
    subst ex
    obtain ⟨a, vs, rfl, hs, ha⟩ := d1.seq r1.bs (.inl rfl)
    have hv := DzAll.upU ha (.inl lc)
    obtain ⟨ps, kvs, rfl, hp, hm⟩ := dp_pairs hv
    have s := vis_in r1
    rcases hs with hs | hs
    · refine ⟨a, ps, kvs, rfl, nt_in.seq hs.2, Paired.same s hp, fun p np => ?_⟩
      have e : mergeK [] kvs = kvs := by
        have := merge_nodup (more := kvs) (acc := []) (by
          rw [List.nil_append, hm.1]
          unfold mpK
          rw [List.map_map]
          have : (m.map ((fun x : Key × PyData => x.1) ∘ fun p : Str × PyData => (Sum.inr p.1, p.2))) = (m.map (·.1)).map Sum.inr := by rw [List.map_map]; rfl
          rw [this]
          unfold List.Nodup at nd ⊢
          rw [List.pairwise_map]
          exact nd.imp fun h e => h (Sum.inr.inj e))
        simpa using this
      rw [e]
      obtain ⟨k2, r2, s2⟩ := r1.new (.dK kvs) np
      exact q _ _ _ (k1.trans k2) r2 ⟨p, kvs, rfl, r1.seen np, hm.same s2⟩
    · cases hs.1
def mVar (i : Nat) : TDm := fun _ δ Q => ∃ m, δ.v[i]? = some (.obj (.map (mpK m))) ∧ Q m δ
instance {i : Nat} : PuM K E (tVar i) (mVar i) where
  mono h := fun ⟨m, e, q⟩ => ⟨m, e, h _ _ q⟩
  run {F hd σ H δ Q} _ r := fun ⟨m, e, q⟩ => by
    obtain ⟨v, h1, h2⟩ := r.vars i _ e
    exact ⟨v, h1, q _ _ _ .refl r h2⟩
/-- name = a dict -/
def sMap (w : TDm) (i : Nat) : TDs := fun X P δ => w X δ fun m δ1 => P.nx ⟨δ1.v.set i (.obj (.map (mpK m))), δ1.n⟩
instance (priority := 1100) {t : TE} {i : Nat} {w : TDm} [p : PuM K E (tCB (rDictP K) (tCons t tNil)) w] : PuS K E (tAsg (tCB (rDictP K) (tCons t tNil)) (gName i)) (sMap w i) where
  mono h := p.mono fun _ _ q => h.nx _ q
  run {F hd σ H δ P D} hE r e q := p.run hE r (p.mono (fun m δ1 q v hd1 H1 k1 r1 d1 => e.nx _ _ _ _ k1.go (r1.setObj d1) q) q)
/-! ### what it has -/
theorem ObAt.kp {F : Frm K} {hd hd1 : Addr → Prop} {σ : L2.St} {H H1 : Hp} {δ : DS} {v : V} {o : Ob} (r : Rep K F hd σ H δ) (k : Kp F hd H hd1 H1) (h : ObAt K (vis F hd H) v o) : ObAt K (vis F hd1 H1) v o := ObAt.same (vis_go r.bs k.go) h
def dGet1 (wm : TDm) (w : TRd) : TD := fun X δ Q => wm X δ fun m δ1 => w X δ1 fun _ y δ2 => ∃ z, y = .str z ∧ Q ((lookM m z).getD .none) δ2
instance {td t : TE} {wm : TDm} {w : TRd} [pm : PuM K E td wm] [p : PuR K E t w] : PuE K E (tDGet1 td t) (dGet1 wm w) where
  mono h := pm.mono fun _ _ => p.mono fun _ _ _ ⟨z, e, q⟩ => ⟨z, e, h _ _ q⟩
  run {F hd σ H δ Q} hE r q := pm.run hE r (pm.mono (fun m δ1 q v hd1 H1 k1 r1 d1 => by
    obtain ⟨a, kvs, rfl, h1, h2⟩ := d1
    have s1 := vis_in r1
    refine ⟨a, rfl, .inl ⟨kvs, .inl (s1 _ _ h1)⟩, p.run hE r1 (p.mono (fun l y δ2 ⟨z, ey, q⟩ u hd2 H2 k2 r2 d2 => ?_) q)⟩
    subst ey
    have := d2.str r2.bs
    subst this
    have vg := vis_go r1.bs k2.go
    have s2 := vis_in r2
    have g : DGet H2 a (.str z) (valV kvs (.inr z)) := .inl ⟨kvs, .inr z, .inl (s2 _ _ (vg _ _ h1)), rfl, rfl⟩
    refine ⟨_, g, ?_⟩
    rcases MapAt.look (h2.same vg) z with ⟨e1, e2⟩ | ⟨w, d, e1, e2, dw⟩
    · rw [e1]; rw [e2] at q; exact q _ _ _ (k1.trans k2) r2 .non
    · rw [e1]; rw [e2] at q; exact q _ _ _ (k1.trans k2) r2 dw) q)
def dGet2 (wm : TDm) (w : TRd) (wx : TD) : TD := fun X δ Q => wm X δ fun m δ1 => w X δ1 fun _ y δ2 => wx X δ2 fun x δ3 => ∃ z, y = .str z ∧ Q ((lookM m z).getD x) δ3
instance {td t tx : TE} {wm : TDm} {w : TRd} {wx : TD} [pm : PuM K E td wm] [p : PuR K E t w] [px : PuE K E tx wx] : PuE K E (tDGet2 td t tx) (dGet2 wm w wx) where
  mono h := pm.mono fun _ _ => p.mono fun _ _ _ => px.mono fun _ _ ⟨z, e, q⟩ => ⟨z, e, h _ _ q⟩
  run {F hd σ H δ Q} hE r q := pm.run hE r (pm.mono (fun m δ1 q v hd1 H1 k1 r1 d1 => by
    obtain ⟨a, kvs, rfl, h1, h2⟩ := d1
    have s1 := vis_in r1
    refine ⟨a, rfl, .inl ⟨kvs, .inl (s1 _ _ h1)⟩, p.run hE r1 (p.mono (fun l y δ2 q u hd2 H2 k2 r2 d2 => px.run hE r2 (px.mono (fun x δ3 ⟨z, ey, qq⟩ x' hd3 H3 k3 r3 d3 => ?_) q)) q)⟩
    subst ey
    have := d2.str r2.bs
    subst this
    have vg := (vis_go r1.bs k2.go).trans (vis_go r2.bs k3.go)
    have s3 := vis_in r3
    have g : DGet H3 a (.str z) (valV kvs (.inr z)) := .inl ⟨kvs, .inr z, .inl (s3 _ _ (vg _ _ h1)), rfl, rfl⟩
    refine ⟨_, g, ?_⟩
    rcases MapAt.look (h2.same vg) z with ⟨e1, e2⟩ | ⟨w, d, e1, e2, dw⟩
    · rw [e1]; rw [e2] at qq; exact qq _ _ _ (k1.trans (k2.trans k3)) r3 d3
    · rw [e1]; rw [e2] at qq; exact qq _ _ _ (k1.trans (k2.trans k3)) r3 dw) q)
def dGetI (wm : TDm) (w : TRd) : TD := fun X δ Q => wm X δ fun m δ1 => w X δ1 fun _ y δ2 => ∃ z d, y = .str z ∧ lookM m z = some d ∧ Q d δ2
instance {td t : TE} {wm : TDm} {w : TRd} [pm : PuM K E td wm] [p : PuR K E t w] : PuE K E (tDGet td t) (dGetI wm w) where
  mono h := pm.mono fun _ _ => p.mono fun _ _ _ ⟨z, d, e, f, q⟩ => ⟨z, d, e, f, h _ _ q⟩
  run {F hd σ H δ Q} hE r q := pm.run hE r (pm.mono (fun m δ1 q v hd1 H1 k1 r1 d1 => by
    obtain ⟨a, kvs, rfl, h1, h2⟩ := d1
    refine p.run hE r1 (p.mono (fun l y δ2 ⟨z, d, ey, ez, q⟩ u hd2 H2 k2 r2 d2 => ?_) q)
    subst ey
    have := d2.str r2.bs
    subst this
    have vg := vis_go r1.bs k2.go
    have s2 := vis_in r2
    rcases MapAt.look (h2.same vg) z with ⟨e1, e2⟩ | ⟨w, d', e1, e2, dw⟩
    · rw [ez] at e2; cases e2
    · rw [ez] at e2; cases e2
      exact ⟨a, w, rfl, .inl ⟨kvs, .inr z, .inl (s2 _ _ (vg _ _ h1)), rfl, e1.symm⟩, q _ _ _ (k1.trans k2) r2 dw⟩) q)
/-! ### defs whose first argument is a dict -/
structure WM where
  G : Type
  pre : G → Mp → List PyData → Prop
  post : G → PyData → Prop
def spM (K : PySem.W.Frag) (al : List Bool) (s : WM) : Sp := fun vs H Q _ => ∃ (a : Addr) (ws : List V) (kvs : List (Key × V)) (V0 : Hp) (m : Mp) (ds : List PyData) (g : s.G), vs = .ref a :: ws ∧ Same V0 H ∧ V0 a = some (.dK kvs) ∧ MapAt K V0 kvs (mpK m) ∧ ArgsV K V0 H al ws ds ∧ s.pre g m ds ∧
  ∀ d, s.post g d → ∀ v H', Same H H' → Dz K (over V0 H H') v d → Q v H'
def dCallM (s : WM) (wm : TDm) (w : TDa) : TD := fun X δ Q => wm X δ fun m δ1 => w X δ1 fun ds δ2 => ∃ g, s.pre g m ds ∧ ∀ d, s.post g d → Q d δ2
instance {al : List Bool} {s : WM} {td : TE} {t : TA} {wm : TDm} {w : TDa} [pm : PuM K E td wm] [p : PuA K E al t w] : PuE K E (tCall (spM K al s) [] E0 (tCons td t)) (dCallM s wm w) where
  mono h := pm.mono fun _ _ => p.mono fun _ _ ⟨g, a, q⟩ => ⟨g, a, fun d z => h _ _ (q d z)⟩
  run {F hd σ H δ Q} hE r q := pm.run hE r (pm.mono (fun m δ1 q v hd1 H1 k1 r1 d1 => by
    obtain ⟨a, kvs, rfl, h1, h2⟩ := d1
    refine p.run hE r1 (p.mono (fun ds δ2 ⟨g, pr, q⟩ vs hd2 H2 k2 r2 d2 => ?_) q)
    show spM K al s (.ref a :: vs ++ []) H2 _ _
    rw [List.append_nil]
    have vg := vis_go r1.bs k2.go
    refine ⟨a, vs, kvs, vis F hd2 H2, m, ds, g, rfl, vis_in r2, vg _ _ h1, h2.same vg, ArgsV.same (fun _ _ e => e) nt_in d2, pr, fun d pd u H' sH du => ?_⟩
    exact q d pd u hd2 H' ((k1.trans k2).trans (.of_same sH)) (r2.same sH) (Dz.same (over_vis r2 fun b o h _ => sH b o h) du)) q)
end
end Rp

/-! Lists that are told anew; lists of lists, the last of which grows. -/
namespace Rp
open PySem PySem.Spec PyProof.Rows L2
section
variable {K : PySem.W.Frag} {E : XK}
/-- what a def promises that tells a list of texts, or a list of such, made anew -/
structure WN where
  G : Type
  pre : G → List PyData → Prop
  res : G → List Str
structure WNN where
  G : Type
  pre : G → List PyData → Prop
  res : G → List (List Str)
inductive F2 {α β : Type} (R : α → β → Prop) : List α → List β → Prop
  | nil : F2 R [] []
  | cons {a : α} {b : β} {l : List α} {m : List β} : R a b → F2 R l m → F2 R (a :: l) (b :: m)
/-- a list of lists of texts, all of it new -/
def NestAt (H0 H : Hp) (p : Addr) (xss : List (List Str)) : Prop := ∃ qs : List Addr, H0 p = none ∧ H p = some (.lst (qs.map V.ref)) ∧ (∀ q ∈ qs, H0 q = none ∧ q ≠ p) ∧ F2 (fun q (xs : List Str) => H q = some (HO.lst (xs.map V.str))) qs xss
def ff (K : PySem.W.Frag) (H : Hp) (vs : List V) (ds : List PyData) : Prop := ArgsV K (fun _ => none) H [false, false] vs ds
def spN (K : PySem.W.Frag) (s : WN) : Sp := fun vs H Q _ => ∃ (ds : List PyData) (g : s.G), ff K H vs ds ∧ s.pre g ds ∧ ∀ p H', Same H H' → H p = none → H' p = some (.lst ((s.res g).map V.str)) → Q (.ref p) H'
def spNN (K : PySem.W.Frag) (s : WNN) : Sp := fun vs H Q _ => ∃ (ds : List PyData) (g : s.G), ff K H vs ds ∧ s.pre g ds ∧ ∀ p H', Same H H' → NestAt H H' p (s.res g) → Q (.ref p) H'
theorem ff_of {A B H : Hp} (s : Same B H) : ∀ {vs : List V} {ds : List PyData}, ArgsV K A B [false, false] vs ds → ff K H vs ds
  | [_, _], [_, _], h => ⟨Dz.same s h.1, Dz.same s h.2.1, trivial⟩
  | [], [], h => by simp [ArgsV] at h
  | [], _ :: _, h => by simp [ArgsV] at h
  | _ :: _, [], h => by simp [ArgsV] at h
  | [_], [_], h => by simp [ArgsV] at h
  | [_], _ :: _ :: _, h => by simp [ArgsV] at h
  | _ :: _ :: _, [_], h => by simp [ArgsV] at h
  | _ :: _ :: _ :: _, [_, _], h => by simp [ArgsV] at h
  | [_, _], _ :: _ :: _ :: _, h => by simp [ArgsV] at h
  | _ :: _ :: _ :: _, _ :: _ :: _ :: _, h => by simp [ArgsV] at h
def nnD (xss : List (List Str)) : PyData := .list (xss.map fun xs => .list (xs.map .str))
theorem nest_dz {H : Hp} : ∀ {qs : List Addr} {xss : List (List Str)}, F2 (fun q (xs : List Str) => H q = some (HO.lst (xs.map V.str))) qs xss → DzAll K H (qs.map V.ref) (xss.map fun xs => .list (xs.map .str))
  | _, _, .nil => .nil
  | _, _, .cons a t => .cons (.lst (.inl (.inl a)) (dz_strs _)) (nest_dz t)
theorem f2_imp {α β : Type} {R S : α → β → Prop} : ∀ {l : List α} {m : List β}, (∀ a ∈ l, ∀ b, R a b → S a b) → F2 R l m → F2 S l m
  | _, _, _, .nil => .nil
  | _, _, h, .cons a t => .cons (h _ List.mem_cons_self _ a) (f2_imp (fun a ha => h a (List.mem_cons_of_mem _ ha)) t)
theorem f2_len {α β : Type} {R : α → β → Prop} : ∀ {l : List α} {m : List β}, F2 R l m → l.length = m.length
  | _, _, .nil => rfl
  | _, _, .cons _ t => by simp [f2_len t]
def dCallN (s : WN) (w : TDa) : TD := fun X δ Q => w X δ fun ds δ1 => ∃ g, s.pre g ds ∧ Q (.list ((s.res g).map .str)) δ1
def dCallNN (s : WNN) (w : TDa) : TD := fun X δ Q => w X δ fun ds δ1 => ∃ g, s.pre g ds ∧ Q (nnD (s.res g)) δ1
instance {s : WN} {t : TA} {w : TDa} {E' : XK} [p : PuA K E [false, false] t w] : PuE K E (tCall (spN K s) [] E' t) (dCallN s w) where
  mono h := p.mono fun _ _ ⟨g, a, q⟩ => ⟨g, a, h _ _ q⟩
  run hE r q := p.run hE r (p.mono (fun ds δ1 ⟨g, a, q⟩ vs hd1 H1 k1 r1 d1 => by
    show spN K s (vs ++ []) H1 _ _
    rw [List.append_nil]
    exact ⟨ds, g, ff_of nt_in d1, a, fun p H' sH np hp => q _ _ _ (k1.trans (.of_same sH)) (r1.same sH) (.lst (.inl (.inl (r1.seen2 np hp))) (dz_strs _))⟩) q)
theorem nest_vis {F : Frm K} {hd : Addr → Prop} {σ : L2.St} {H H' : Hp} {δ : DS} {p : Addr} {xss : List (List Str)} (r : Rep K F hd σ H δ) (h : NestAt H H' p xss) : Dz K (vis F hd H') (.ref p) (nnD xss) := by
  obtain ⟨qs, h1, h2, h3, h4⟩ := h
  exact .lst (.inl (.inl (r.seen2 h1 h2))) (nest_dz (f2_imp (fun q hq xs e => r.seen2 (h3 q hq).1 e) h4))
instance {s : WNN} {t : TA} {w : TDa} {E' : XK} [p : PuA K E [false, false] t w] : PuE K E (tCall (spNN K s) [] E' t) (dCallNN s w) where
  mono h := p.mono fun _ _ ⟨g, a, q⟩ => ⟨g, a, h _ _ q⟩
  run hE r q := p.run hE r (p.mono (fun ds δ1 ⟨g, a, q⟩ vs hd1 H1 k1 r1 d1 => by
    show spNN K s (vs ++ []) H1 _ _
    rw [List.append_nil]
    exact ⟨ds, g, ff_of nt_in d1, a, fun p H' sH np => q _ _ _ (k1.trans (.of_same sH)) (r1.same sH) (nest_vis r1 np)⟩) q)
/-! ### a def that tells a list of its own -/
end
end Rp

/-! for x in xs: if c: parts.append([]); parts[-1].append(x) -/
namespace Rp
open PySem PySem.Spec PyProof.Rows L2
section
variable {K : PySem.W.Frag} {E : XK}
def Frm.wN (F : Frm K) (N : Addr → Prop) : Frm K := { F with N := N }
theorem Rep.forget {F : Frm K} {hd : Addr → Prop} {σ : L2.St} {H : Hp} {δ : DS} (r : Rep K F hd σ H δ) (i : Nat) : Rep K F hd σ H ⟨δ.v.set i .no, δ.n⟩ := by
  by_cases h : i < σ.length
  · have := r.drop (i := i) (o := σ[i])
    rwa [List.set_getElem_self] at this
  · have e : δ.v.set i .no = δ.v := List.set_eq_of_length_le (by rw [← r.len]; omega)
    rw [e]; exact r
/-- cut where a piece begins -/
def pcS (m : Str → Bool) (xss : List (List Str)) (x : Str) : List (List Str) := if m x then xss ++ [[x]] else xss.dropLast ++ [(xss.getLast?.getD []) ++ [x]]
structure NestI (K : PySem.W.Frag) (F : Frm K) (hd1 : Addr → Prop) (H1 : Hp) (a : Addr) (p : Nat) (δ0 : DS) (m : Str → Bool) (row : List Str) (i : Nat) (hd : Addr → Prop) (σ : L2.St) (H : Hp) (N : Addr → Prop) (qs : List Addr) (xss : List (List Str)) : Prop where
  rp : Rep K (F.wN N) hd σ H δ0
  go : Go F hd1 H1 hd H
  at' : σ[p]? = some (some (V.ref a))
  na : N a
  nq : ∀ q ∈ qs, N q ∧ F.H0 q = none ∧ q ≠ a
  nd : qs.Nodup
  ha : H a = some (.lst (qs.map V.ref))
  al : F2 (fun q (xs : List Str) => H q = some (HO.lst (xs.map V.str))) qs xss
  ex : xss = (row.take i).foldl (pcS m) []
end
end Rp

/-! Defs that tell lists of lists; lists that are told anew, changed, and left behind; max and sorted of ints. -/
namespace Rp
open PySem PySem.Spec PyProof.Rows L2
section
variable {K : PySem.W.Frag} {E : XK}
/-- a, b = y, [..] -/
def sParD (i j : Nat) (wa : TD) (wb : TDa) : TDs := fun X P δ => wa X δ fun y δ1 => wb X δ1 fun ds δ2 => P.nx ⟨(δ2.v.set i (.dat y)).set j (.own ds), δ2.n⟩
instance (priority := 790) {i j : Nat} {ta tb : TE} {wa : TD} {wb : TDa} [pa : PuE K E ta wa] [pb : PuN K E tb wb] : PuS K E (tPar i j (tCons ta (tCons tb tNil))) (sParD i j wa wb) where
  mono h := pa.mono fun _ _ => pb.mono fun _ _ q => h.nx _ q
  run {F hd σ H δ P D} hE r e q := pa.run hE r (pa.mono (fun y δ1 q v hd1 H1 k1 r1 d1 => pb.run hE r1 (pb.mono (fun ds δ2 q p vs hd2 H2 k2 r2 r3 np n0 h2 dd => by
    have g2 : Go F hd1 H1 (fun b => hd2 b ∨ b = p) H2 := ⟨fun b o h t _ => k2.kp b o h t, fun b z => z.elim (fun z => .inl (k2.less b z)) fun z => .inr (by rw [z]; exact n0.2)⟩
    have ra := r2.setDat (i := i) (Dz.same (vis_go r1.bs k2.go) d1)
    have rb := r3.setDat (i := i) (Dz.same (vis_go r1.bs g2) d1)
    refine ⟨v, .ref p, rfl, e.nx _ _ _ _ ?_ (ra.setOwn (i := j) rb np h2 dd) q⟩
    refine ⟨fun b o h t _ => k2.kp b o (k1.kp b o h t) t, fun b z => ?_⟩
    rcases z with z | z
    · exact .inl (k1.less b (k2.less b z))
    · right
      rw [z]
      exact k1.back (fun t => by have := F.ta p t; rw [n0.1] at this; cases this) n0.2) q)) q)
def dStrewn (i : Nat) (wa : TRd) : TD := fun X δ Q => δ.v[i]? = some .tape ∧ wa X δ fun _ x δ1 => ∃ zs : List Str, Items x (zs.map .str) ∧ δ1.n ≤ 90000000 ∧ zs.length ≤ 1000 ∧ ∀ ys : List Str, ys.Perm zs → Q (.list (ys.map .str)) ⟨δ1.v, δ1.n + zs.length⟩
/-! ### max, sorted of ints -/
def fMaxI : Lv → PyData → (PyData → Prop) → Prop := fun _ x Q => ∃ ns : List Int, x = .list (ns.map .int) ∧ 0 < ns.length ∧ ∀ m, m ∈ ns → (∀ y, y ∈ ns → y ≤ m) → Q (.int m)
instance {t : TE} {w : TRd} [p : PuR K E t w] : PuE K E (tCB (rMax K) (tCons t tNil)) (dB1 fMaxI w) where
  mono h := p.mono fun _ _ _ ⟨ds, i, l, q⟩ => ⟨ds, i, l, fun m h1 h2 => h _ _ (q m h1 h2)⟩
  run hE r q := un1 (t := t) hE r q fun l x δ1 v hd1 H1 k1 r1 d1 ⟨ns, e, l0, q⟩ => by
    subst e
    obtain ⟨a, vs, rfl, hs, ha⟩ := d1.seq r1.bs (.inl rfl)
    have := ints_of ha
    subst this
    rcases hs with hs | hs
    · exact ⟨a, ns, rfl, nt_in.seq hs.2, l0, fun m h1 h2 => q m h1 h2 _ _ _ k1 r1 (.int _)⟩
    · cases hs.1
def fSortI : Lv → PyData → (PyData → Prop) → Prop := fun _ x Q => ∃ ns : List Int, x = .list (ns.map .int) ∧ ns.length < 64 ∧ ∀ ms : List Int, ms.Perm ns → ms.Pairwise (· ≤ ·) → Q (.list (ms.map .int))
theorem dz_ints {H : Hp} : ∀ zs : List Int, DzAll K H (zs.map V.int) (zs.map PyData.int)
  | [] => .nil
  | z :: r => .cons (.int z) (dz_ints r)
instance {t : TE} {w : TRd} [p : PuR K E t w] : PuE K E (tCB (rSorted K) (tCons t tNil)) (dB1 fSortI w) where
  mono h := p.mono fun _ _ _ ⟨ds, i, l, q⟩ => ⟨ds, i, l, fun m h1 h2 => h _ _ (q m h1 h2)⟩
  run hE r q := un1 (t := t) hE r q fun l x δ1 v hd1 H1 k1 r1 d1 ⟨ns, e, l0, q⟩ => by
    subst e
    obtain ⟨a, vs, rfl, hs, ha⟩ := d1.seq r1.bs (.inl rfl)
    have := ints_of ha
    subst this
    rcases hs with hs | hs
    · exact ⟨a, ns, rfl, nt_in.seq hs.2, l0, fun ms p h1 h2 np => newLst r1 np (dz_ints ms) ((q ms h1 h2).kp k1)⟩
    · cases hs.1
/-! ### two lists told anew, looked at, changed, and left behind -/
structure SegI (K : PySem.W.Frag) (F : Frm K) (hd : Addr → Prop) (H : Hp) (v : List AV) (m n : Nat) (i : Nat) (p0 a1 a2 : Addr) (qs : List Addr) (t : Nat) (σ' : L2.St) (H' : Hp) : Prop where
  rp : Rep K F hd σ' H ⟨v, m⟩
  tp : ∀ b, F.T b → CAt F H' b n
  kp : ∀ b o, H b = some o → ¬ F.T b → H' b = some o
  s0 : σ'[i]? = some (some (V.ref p0))
  h0 : H' p0 = some (.lst [V.ref a1, V.ref a2])
  h1 : ∃ us : List V, H' a1 = some (.lst us)
  h2 : H' a2 = some (.lst (qs.map V.ref))
  hq : ∀ q ∈ qs, ∃ us : List V, H' q = some (.lst us) ∧ us.length ≤ 1000 + t
def sSeg (i j k : Nat) (s1 : WN) (s2 : WNN) (wa1 wa2 : TDa) (w2 : TD) (wc : TDt) (u : TDs) : TDs := fun X P δ => i ≠ j ∧ i ≠ k ∧ i < δ.v.length ∧ k < δ.v.length ∧
  wa1 X δ fun ds1 δ1 => ∃ g1, s1.pre g1 ds1 ∧ wa2 X δ1 fun ds2 δ2 => ∃ g2, s2.pre g2 ds2 ∧ (s2.res g2).length ≤ 1000 ∧ (∀ x ∈ s2.res g2, x.length ≤ 1000) ∧
    w2 X ⟨δ2.v.set i (.dat (.list [.list ((s1.res g1).map .str), nnD (s2.res g2)])), δ2.n⟩ fun d δ3 => wc X ⟨δ3.v.set j (.dat d), δ3.n⟩ fun b δ4 => b = false ∧ u X P ⟨((δ.v.set i .no).set j .no).set k .no, δ4.n⟩
instance (priority := 3000) {i j k : Nat} {s1 : WN} {s2 : WNN} {E1 E2 : XK} {ta1 ta2 : TA} {wa1 wa2 : TDa} {t2 : TE} {w2 : TD} {tc : TT} {wc : TDt} {tr : TS} {z : Str} {tu : TS} {u : TDs}
    [p1 : PuA K E [false, false] ta1 wa1] [p2 : PuA K E [false, false] ta2 wa2] [p3 : PuE K E t2 w2] [p4 : PuT K E tc wc] [p5 : PuS K E tu u] :
    PuS K E (tSeq (tAsg (tLst (tCons (tCall (spN K s1) [] E1 ta1) (tCons (tCall (spNN K s2) [] E2 ta2) tNil))) (gName i)) (tSeq (tAsg t2 (gName j)) (tSeq (tIfS tc tr tNext) (tSeq (tFor (iAny K (tOp (rIx K) (tVar i) (tC (.int 1)))) (gName k) (tDrop (tBM K "list" rAppend (tVar k) (tCons (tC (.str z)) tNil)))) (tSeq (tDrop (tBM0 K "list" rClear (tOp (rIx K) (tVar i) (tC (.int 0))))) tu)))))
      (sSeg i j k s1 s2 wa1 wa2 w2 wc u) where
  mono h := fun ⟨e1, e2, e3, e4, q⟩ => ⟨e1, e2, e3, e4, p1.mono (fun _ _ ⟨g1, a, q⟩ => ⟨g1, a, p2.mono (fun _ _ ⟨g2, a, b, c, q⟩ => ⟨g2, a, b, c, p3.mono (fun _ _ => p4.mono fun _ _ ⟨e, q⟩ => ⟨e, p5.mono h q⟩) q⟩) q⟩) q⟩
  run {F hd σ H δ P D} hE r e := fun ⟨e1, e2, e3, e4, q⟩ => by
    refine p1.run hE r (p1.mono (fun ds1 δ1 ⟨g1, c1, q⟩ vs1 hd1 H1 k1 r1 d1 => ?_) q)
    show spN K s1 (vs1 ++ []) H1 _ _
    rw [List.append_nil]
    refine ⟨ds1, g1, ff_of nt_in d1, c1, fun a1 H2 sH2 na1 ha1 => ?_⟩
    have r2 := r1.same sH2
    refine p2.run hE r2 (p2.mono (fun ds2 δ2 ⟨g2, c2, l1, l2, q⟩ vs2 hd3 H3 k3 r3 d3 => ?_) q)
    show spNN K s2 (vs2 ++ []) H3 _ _
    rw [List.append_nil]
    refine ⟨ds2, g2, ff_of nt_in d3, c2, fun a2 H4 sH4 na2 => ⟨by simp; rw [sizeLine_eq]; decide, fun p0 np0 => ?_⟩⟩
    -- where all of it lies
    have f1 := r1.fresh na1
    have ha3 : H3 a1 = some (.lst ((s1.res g1).map V.str)) := k3.kp _ _ ha1 f1.2.2
    have ha4 := sH4 _ _ ha3
    have nv := nest_vis (r3) na2
    obtain ⟨qs, n1, n2, n3, n4⟩ := na2
    have r4 := r3.same sH4
    have kH : ∀ b o, H b = some o → ¬ F.T b → H4 b = some o := fun b o h t => sH4 _ _ (k3.kp _ _ (sH2 _ _ (k1.kp _ _ h t)) t)
    have hb3 : ∀ b, H3 b = none → H b = none := fun b h => by
      cases c : H b with
      | none => rfl
      | some o =>
        have t := (r3.fresh h).2.2
        rw [k3.kp _ _ (sH2 _ _ (k1.kp _ _ c t)) t] at h; cases h
    have ba1 : H a1 = none := k1.back f1.2.2 na1
    have ba2 : H a2 = none := hb3 _ n1
    have bq : ∀ q ∈ qs, H q = none := fun q hq => hb3 _ (n3 q hq).1
    have va : Dz K (vis F hd3 H4) (.ref a1) (.list ((s1.res g1).map .str)) := by
      refine .lst (.inl (.inl ?_)) (dz_strs _)
      have c3 : ¬ hd3 a1 := fun z => f1.1 (k3.less _ z)
      rw [vis_new c3 f1.2.1]; exact ha4
    obtain ⟨k5, r5, s5⟩ := r4.new (.lst [V.ref a1, V.ref a2]) np0
    have vd : Dz K (vis F hd3 (upd H4 p0 (.lst [V.ref a1, V.ref a2]))) (.ref p0) (.list [.list ((s1.res g1).map .str), nnD (s2.res g2)]) := .lst (.inl (.inl (r4.seen np0))) (DzAll.same s5 (.cons va (.cons nv .nil)))
    have r6 := r5.setDat (i := i) vd
    -- what is looked at
    refine p3.run hE r6 (p3.mono (fun d δ3 q v7 hd7 H7 k7 r7 d7 => ?_) q)
    have r8 := r7.setDat (i := j) d7
    refine p4.run hE r8 (p4.mono (fun b δ4 ⟨eb, q⟩ hd9 H9 k9 r9 => ?_) q)
    subst eb
    have nt : ∀ {b o}, H4 b = some o → (upd H4 p0 (.lst [V.ref a1, V.ref a2])) b = some o := fun {b o} h => by rw [upd_ne (ne_of_none h np0)]; exact h
    have up : ∀ {b o}, ¬ F.T b → H4 b = some o → H9 b = some o := fun {b o} t h => k9.kp _ _ (k7.kp _ _ (nt h) t) t
    have tp0 := (r4.fresh np0).2.2
    have ta2 : ¬ F.T a2 := (r3.fresh n1).2.2
    have tq : ∀ q ∈ qs, ¬ F.T q := fun q hq => (r3.fresh (n3 q hq).1).2.2
    have kH9 : ∀ b o, H b = some o → ¬ F.T b → H9 b = some o := fun b o h t => up t (kH b o h t)
    have hq9 : ∀ {l : List Addr} {ys : List (List Str)}, (∀ q ∈ l, q ∈ qs) → (∀ y ∈ ys, y.length ≤ 1000) → F2 (fun q (xs : List Str) => H4 q = some (HO.lst (xs.map V.str))) l ys → ∀ q ∈ l, ∃ us : List V, H9 q = some (.lst us) ∧ us.length ≤ 1000 := fun {l ys} hl hy h => by
      induction h with
      | nil => intro q z; cases z
      | cons a _ ih =>
        intro q z
        rcases List.mem_cons.mp z with rfl | z
        · exact ⟨_, up (tq _ (hl _ List.mem_cons_self)) a, by rw [List.length_map]; exact hy _ List.mem_cons_self⟩
        · exact ih (fun q hq => hl q (List.mem_cons_of_mem _ hq)) (fun y h => hy y (List.mem_cons_of_mem _ h)) q z
    have hqq := hq9 (fun q hq => hq) l2 n4
    have np0' : ∀ {b o}, H4 b = some o → b ≠ p0 := fun {b o} h => ne_of_none h np0
    have h0 : H9 p0 = some (.lst [V.ref a1, V.ref a2]) := k9.kp _ _ (k7.kp _ _ upd_same tp0) tp0
    have s0 : ((σ.set i (some (V.ref p0))).set j (some v7))[i]? = some (some (V.ref p0)) := by
      rw [List.getElem?_set_ne (Ne.symm e1), List.getElem?_set_self (by rw [r.len]; exact e3)]
    have rb := ((r.drop (i := i) (o := some (V.ref p0))).drop (i := j) (o := some v7)).forget k
    have st : SegI K F hd H (((δ.v.set i .no).set j .no).set k .no) δ.n δ4.n i p0 a1 a2 qs 0 ((σ.set i (some (V.ref p0))).set j (some v7)) H9 := ⟨rb, fun b t => r9.cat b t, kH9, s0, h0, ⟨_, up f1.2.2 ha4⟩, up ta2 n2, hqq⟩
    rw [if_neg (by decide)]
    simp only [tNext, tSeq, tFor_eq]
    refine ⟨.ref p0, s0, .inl ⟨p0, _, 1, .ref a2, rfl, rfl, .inl (.inl h0), rfl, a2, rfl, .inl ⟨⟨_, .inl (.inl st.h2)⟩, ?_⟩⟩⟩
    have fq : qs.length = (s2.res g2).length := f2_len n4
    have ha2q : ∀ q ∈ qs, q ≠ a2 ∧ q ≠ p0 := fun q hq => ⟨(n3 q hq).2, by
      have := hq9 (l := qs) (fun q hq => hq) l2 n4 q hq
      intro z
      have hh : ∀ {l : List Addr} {ys : List (List Str)}, F2 (fun q (xs : List Str) => H4 q = some (HO.lst (xs.map V.str))) l ys → q ∈ l → (H4 q).isSome = true := fun {l ys} h => by
        induction h with
        | nil => intro z; cases z
        | cons a _ ih =>
          intro z
          rcases List.mem_cons.mp z with rfl | z
          · rw [a]; rfl
          · exact ih z
      have := hh n4 hq
      rw [z, np0] at this; cases this⟩
    refine frK (walk_list (xs := qs.map V.ref)) (fun t σ' H' => SegI K F hd H (((δ.v.set i .no).set j .no).set k .no) δ.n δ4.n i p0 a1 a2 qs t σ' H') st (fun t σ' H' _ h => .inl (.inl h.h2)) (fun t x σ' Ha Hb ht hp hy => ?_) (fun σ' H' h => ?_)
    · obtain ⟨rfl, hx⟩ := hy
      rw [List.getElem?_map] at hx
      obtain ⟨q0, hq0, rfl⟩ := Option.map_eq_some_iff.mp hx
      have mq := List.mem_of_getElem? hq0
      obtain ⟨us, hu, lu⟩ := hp.hq q0 mq
      have tl : t < qs.length := (List.getElem?_eq_some_iff.mp hq0).1
      have rr := (hp.rp.drop (i := k) (o := some (V.ref q0)))
      have kk : ∀ b o, H b = some o → ¬ F.T b → (upd Hb q0 (.lst (us ++ [V.str z]))) b = some o := fun b o h t => by rw [upd_ne (ne_of_none h (bq q0 mq))]; exact hp.kp b o h t
      have r0 : Rep K F hd (σ'.set k (some (V.ref q0))) H ⟨((δ.v.set i .no).set j .no).set k .no, δ.n⟩ := by simpa [List.set_set] using rr
      have kl : k < σ'.length := by rw [hp.rp.len]; simpa using e4
      · refine ⟨.ref q0, List.getElem?_set_self kl, .inl ⟨rfl, _, .inl (.inl hu)⟩, q0, us, _, rfl, rfl, hu, by rw [sizeLine_eq]; omega, r0, fun b t => (hp.tp b t).lst hu (fun z => tq q0 mq (by rw [← z]; exact t)), kk, ?_, ?_, ?_, ?_, fun q hq => ?_⟩
        · rw [List.getElem?_set_ne (Ne.symm e2)]; exact hp.s0
        · rw [upd_ne (Ne.symm (ha2q q0 mq).2)]; exact hp.h0
        · by_cases c : a1 = q0
          · exact ⟨_, by rw [c, upd_same]⟩
          · obtain ⟨us', h'⟩ := hp.h1
            exact ⟨us', by rw [upd_ne c]; exact h'⟩
        · rw [upd_ne (Ne.symm (ha2q q0 mq).1)]; exact hp.h2
        · by_cases c : q = q0
          · exact ⟨_, by rw [c, upd_same], by simp; omega⟩
          · obtain ⟨us', h', l'⟩ := hp.hq q hq
            exact ⟨us', by rw [upd_ne c]; exact h', by omega⟩
    · obtain ⟨us, hu⟩ := h.h1
      refine ⟨.ref p0, h.s0, .inl ⟨p0, _, 0, .ref a1, rfl, rfl, .inl (.inl h.h0), rfl, .inl ⟨rfl, _, .inl (.inl hu)⟩, a1, us, rfl, rfl, hu, ?_⟩⟩
      have kk : ∀ b o, H b = some o → ¬ F.T b → (upd H' a1 (.lst [])) b = some o := fun b o h' t => by rw [upd_ne (ne_of_none h' ba1)]; exact h.kp b o h' t
      have rz := h.rp.kp (n := δ4.n) kk (fun b t => h.h1.elim fun _ hh => (h.tp b t).lst hh (fun z => f1.2.2 (by rw [← z]; exact t)))
      exact p5.run hE rz (e.go rz ⟨fun b o e t _ => kk b o e t, fun _ z => .inl z⟩) q
end
end Rp

/-! Heads and blocks of a row, by a liking. -/
namespace Rp
open PySem PySem.Spec PyProof.Rows L2
end Rp

/-! tuple * 0, tuple * 1 -/
namespace Rp
open PySem PySem.Spec PyProof.Rows L2
def rRepZ (K : PySem.W.Frag) : R2 := fun x y H Q => ∃ l k xs, x = .ref l ∧ y = .int k ∧ SqT K H l xs ∧ xs ≠ [] ∧ ((k = 1 ∧ Q (.ref l) H) ∨ (k = 0 ∧ ∀ p ob, H p = none → ob.dict = none → Q (.ref p) (upd H p (.frz ob (.tup [])))))
section
variable {X : Cx}
end
section
variable {K : PySem.W.Frag} {E : XK}
def dRepZ (wa : TD) (wb : TRd) : TD := fun X δ Q => wa X δ fun x δ1 => wb X δ1 fun _ y δ2 => ∃ ds k, x = .tuple ds ∧ y = .int k ∧ ds ≠ [] ∧ ((k = 1 ∧ Q x δ2) ∨ (k = 0 ∧ Q (.tuple []) δ2))
instance {ta tb : TE} {wa : TD} {wb : TRd} [pa : PuE K E ta wa] [pb : PuR K E tb wb] : PuE K E (tOp (rRepZ K) ta tb) (dRepZ wa wb) where
  mono h := pa.mono fun _ _ => pb.mono fun _ _ _ ⟨ds, k, a, b, c, q⟩ => ⟨ds, k, a, b, c, q.imp (fun q => ⟨q.1, h _ _ q.2⟩) (fun q => ⟨q.1, h _ _ q.2⟩)⟩
  run {F hd σ H δ Q} hE r q := pa.run hE r (pa.mono (fun x δ1 q v hd1 H1 k1 r1 d1 => pb.run hE r1 (pb.mono (fun l y δ2 ⟨ds, k, ex, ey, nn, q⟩ u hd2 H2 k2 r2 d2 => by
    subst ex ey
    have := d2.int r2.bs
    subst this
    have d1' := Dz.same (vis_go r1.bs k2.go) d1
    have d1c := d1'
    cases d1c with
    | @tup p xs _ hs nd ha =>
      have hx : xs ≠ [] := fun e => nn (by subst e; cases ha; rfl)
      refine ⟨p, k, xs, rfl, rfl, Same.seqT (vis_in r2) hs, hx, q.imp (fun q => ⟨q.1, q.2 _ _ _ (k1.trans k2) r2 d1'⟩) (fun q => ⟨q.1, fun p ob np nd => newTup r2 np nd .nil (q.2.kp (k1.trans k2))⟩)⟩) q)) q)
/-! ### defs that tell a list of data, made anew -/
def spFN (K : PySem.W.Frag) (al : List Bool) (s : WF) : Sp := fun vs H Q E => ∃ (V0 : Hp) (ds : List PyData), Same V0 H ∧ ArgsV K V0 H al vs ds ∧
  s.wp ds 0 (fun d _ => ∀ es, d = .list es → ∀ p us H', Same H H' → H p = none → H' p = some (.lst us) → DzAll K (over V0 H H') us es → Q (.ref p) H') (fun C d => ∀ (e : Addr) (v : V) (H' : Hp), H e = none → Same H H' → H' e = some (.xd [("what", v)]) → Dz K (over V0 H H') v d → E (.ref C) (some e) H')
theorem spFN_of {al : List Bool} {s : WF} {vs : List V} {H : Hp} {Q : VK} {E : XK} (h : spF K al s vs H Q E) : spFN K al s vs H Q E := by
  obtain ⟨V0, ds, sV, d, w⟩ := h
  refine ⟨V0, ds, sV, d, WF.mono (fun d _ q es ed p us H' sH np hp dd => ?_) (fun _ _ z => z) w⟩
  subst ed
  refine q _ _ sH (.lst (.inl (.inl ?_)) dd)
  unfold over
  rw [if_neg (by rw [np]; simp)]; exact hp
instance {al : List Bool} {s : WF} {t : TA} {w : TDa} [p : PuA K E al t w] : PuE K E (tCall (spFN K al s) [] E0 t) (dCall0 s w) where
  mono h := p.mono fun _ _ q => WF.mono (fun _ _ q => h _ _ q) (fun _ _ z => z) q
  run hE r q := p.run hE r (p.mono (fun ds δ1 q vs hd1 H1 k1 r1 d1 => by show spFN K al s (vs ++ []) H1 _ _; rw [List.append_nil]; exact spFN_of (call_run k1 r1 d1 q fun _ _ z => z.elim)) q)
instance (priority := 900) {al : List Bool} {s : WF} {t : TA} {w : TDa} [p : PuA K E al t w] : PuE K E (tCall (spFN K al s) [] E t) (dCallX s w) where
  mono h := p.mono fun _ _ q => WF.mono (fun _ _ q => h _ _ q) (fun _ _ z => z) q
  run {F hd σ H δ Q} hE r q := p.run hE r (p.mono (fun ds δ1 q vs hd1 H1 k1 r1 d1 => by
    show spFN K al s (vs ++ []) H1 _ _
    rw [List.append_nil]
    refine spFN_of (call_run k1 r1 d1 q fun C d z e v H' ne sH he dv => ?_)
    rw [← hE]
    exact F.ex C d e v H' z (r1.fresh ne).2.1 (fun b o h t => sH b o (r1.bs.ev b o h t)) (fun b q z => ((r1.cat b (F.tbT b q z)).1 q z).ext sH) he (Dz.same (vis_over (hd := hd1)) (Dz.same (over_vis r1 fun b o h _ => sH b o h) dv))) q)
/-- two lists told anew, looked at, changed, and left behind -/
def sSegB (i : Nat) (s1 s2 : WF) (wa1 wa2 : TDa) (wc : TDt) : TDs := fun X P δ => i < δ.v.length ∧
  wa1 X δ fun ds1 δ1 => s1.wp ds1 0 (fun d1 _ => (∃ es1, d1 = .list es1 ∧ es1.length < sizeLine) ∧ wa2 X δ1 fun ds2 δ2 => s2.wp ds2 0 (fun d2 _ => (∃ es2, d2 = .list es2) ∧
    wc X ⟨δ2.v.set i (.dat (.list [d1, d2])), δ2.n⟩ fun b δ4 => b = false ∧ P.nx ⟨δ.v.set i .no, δ4.n⟩) (fun _ _ => False)) (fun _ _ => False)
instance (priority := 3000) {i : Nat} {al1 al2 : List Bool} {s1 s2 : WF} {ta1 ta2 : TA} {wa1 wa2 : TDa} {tc : TT} {wc : TDt} {tr : TS} {z : Str}
    [p1 : PuA K E al1 ta1 wa1] [p2 : PuA K E al2 ta2 wa2] [p4 : PuT K E tc wc] :
    PuS K E (tSeq (tAsg (tLst (tCons (tCall (spFN K al1 s1) [] E0 ta1) (tCons (tCall (spFN K al2 s2) [] E0 ta2) tNil))) (gName i)) (tSeq (tIfS tc tr tNext) (tSeq (tDrop (tBM K "list" rAppend (tOp (rIx K) (tVar i) (tC (.int 0))) (tCons (tC (.str z)) tNil))) (tDrop (tBM0 K "list" rReverse (tOp (rIx K) (tVar i) (tC (.int 1))))))))
      (sSegB i s1 s2 wa1 wa2 wc) where
  mono h := fun ⟨e3, q⟩ => ⟨e3, p1.mono (fun _ _ => WF.mono (fun _ _ ⟨a, q⟩ => ⟨a, p2.mono (fun _ _ => WF.mono (fun _ _ ⟨a, q⟩ => ⟨a, p4.mono (fun _ _ ⟨e, q⟩ => ⟨e, h.nx _ q⟩) q⟩) (fun _ _ z => z)) q⟩) (fun _ _ z => z)) q⟩
  run {F hd σ H δ P D} hE r e := fun ⟨e3, q⟩ => by
    refine p1.run hE r (p1.mono (fun ds1 δ1 q vs1 hd1 H1 k1 r1 d1 => ?_) q)
    show spFN K al1 s1 (vs1 ++ []) H1 _ _
    rw [List.append_nil]
    refine ⟨vis F hd1 H1, ds1, vis_in r1, ArgsV.same (fun _ _ e => e) nt_in d1, WF.mono (fun _ _ q es1 ed1 a1 us1 H2 sH2 na1 ha1 dd1 => ?_) (fun _ _ z => z.elim) q⟩
    obtain ⟨⟨es1', ed1', l1⟩, q⟩ := q
    subst ed1
    cases ed1'
    have r2 := r1.same sH2
    refine p2.run hE r2 (p2.mono (fun ds2 δ2 q vs2 hd3 H3 k3 r3 d3 => ?_) q)
    show spFN K al2 s2 (vs2 ++ []) H3 _ _
    rw [List.append_nil]
    refine ⟨vis F hd3 H3, ds2, vis_in r3, ArgsV.same (fun _ _ e => e) nt_in d3, WF.mono (fun _ _ q es2 ed2 a2 us2 H4 sH4 na2 ha2 dd2 => ⟨by simp; rw [sizeLine_eq]; decide, fun p0 np0 => ?_⟩) (fun _ _ z => z.elim) q⟩
    obtain ⟨_, q⟩ := q
    subst ed2
    have f1 := r1.fresh na1
    have f2 := r3.fresh na2
    have ha3 : H3 a1 = some (.lst us1) := k3.kp _ _ ha1 f1.2.2
    have ha4 := sH4 _ _ ha3
    have r4 := r3.same sH4
    have kH : ∀ b o, H b = some o → ¬ F.T b → H4 b = some o := fun b o h t => sH4 _ _ (k3.kp _ _ (sH2 _ _ (k1.kp _ _ h t)) t)
    have ba1 : H a1 = none := k1.back f1.2.2 na1
    have ba2 : H a2 = none := by
      cases c : H a2 with
      | none => rfl
      | some o => rw [k3.kp _ _ (sH2 _ _ (k1.kp _ _ c f2.2.2)) f2.2.2] at na2; cases na2
    have v1 : Dz K (vis F hd3 H4) (.ref a1) (.list es1) := by
      have x1 : Dz K (vis F hd1 H2) (.ref a1) (.list es1) := .lst (.inl (.inl (r1.seen2 na1 ha1))) (DzAll.same (over_vis r1 fun b o h _ => sH2 b o h) dd1)
      exact Dz.same (vis_same r3.bs sH4) (Dz.same (vis_go r2.bs k3.go) x1)
    have v2 : Dz K (vis F hd3 H4) (.ref a2) (.list es2) := .lst (.inl (.inl (r3.seen2 na2 ha2))) (DzAll.same (over_vis r3 fun b o h _ => sH4 b o h) dd2)
    obtain ⟨k5, r5, s5⟩ := r4.new (.lst [V.ref a1, V.ref a2]) np0
    have vd : Dz K (vis F hd3 (upd H4 p0 (.lst [V.ref a1, V.ref a2]))) (.ref p0) (.list [.list es1, .list es2]) := .lst (.inl (.inl (r4.seen np0))) (DzAll.same s5 (.cons v1 (.cons v2 .nil)))
    have r6 := r5.setDat (i := i) vd
    refine p4.run hE r6 (p4.mono (fun b δ4 ⟨eb, q⟩ hd9 H9 k9 r9 => ?_) q)
    subst eb
    have up : ∀ {b o}, ¬ F.T b → H4 b = some o → H9 b = some o := fun {b o} t h => k9.kp _ _ (by rw [upd_ne (ne_of_none h np0)]; exact h) t
    have tp0 := (r4.fresh np0).2.2
    have kH9 : ∀ b o, H b = some o → ¬ F.T b → H9 b = some o := fun b o h t => up t (kH b o h t)
    have h0 : H9 p0 = some (.lst [V.ref a1, V.ref a2]) := k9.kp _ _ upd_same tp0
    have h1 : H9 a1 = some (.lst us1) := up f1.2.2 ha4
    have h2 : H9 a2 = some (.lst us2) := up f2.2.2 ha2
    have s0 : (σ.set i (some (V.ref p0)))[i]? = some (some (V.ref p0)) := List.getElem?_set_self (by rw [r.len]; exact e3)
    have n01 : p0 ≠ a1 := fun z => by rw [z, ha4] at np0; cases np0
    have n12 : a2 ≠ a1 := fun z => by rw [z, ha3] at na2; cases na2
    have lus : us1.length < sizeLine := by rw [DzAll.len dd1]; exact l1
    rw [if_neg (by decide)]
    simp only [tNext, tSeq]
    refine ⟨.ref p0, s0, .inl ⟨p0, _, 0, .ref a1, rfl, rfl, .inl (.inl h0), rfl, .inl ⟨rfl, _, .inl (.inl h1)⟩, a1, us1, _, rfl, rfl, h1, lus, ?_⟩⟩
    refine ⟨.ref p0, s0, .inl ⟨p0, _, 1, .ref a2, rfl, rfl, .inl (.inl (by rw [upd_ne n01]; exact h0)), rfl, .inl ⟨rfl, _, .inl (.inl (by rw [upd_ne n12]; exact h2))⟩, a2, us2, rfl, rfl, by rw [upd_ne n12]; exact h2, ?_⟩⟩
    have kk : ∀ b o, H b = some o → ¬ F.T b → (upd (upd H9 a1 (.lst (us1 ++ [V.str z]))) a2 (.lst us2.reverse)) b = some o := fun b o h' t => by rw [upd_ne (ne_of_none h' ba2), upd_ne (ne_of_none h' ba1)]; exact kH9 b o h' t
    have rz := (r.kp (n := δ4.n) kk (fun b t => ((r9.cat b t).lst h1 (fun z => f1.2.2 (by rw [← z]; exact t))).lst (by rw [upd_ne n12]; exact h2) (fun z => f2.2.2 (by rw [← z]; exact t)))).drop (i := i) (o := some (V.ref p0))
    exact e.nx _ _ _ _ ⟨fun b o e t _ => kk b o e t, fun _ z => .inl z⟩ rz q
end
end Rp

/-! dict(xs), xs a tuple of pairs -/
namespace Rp
open PySem PySem.Spec PyProof.Rows L2
section
variable {X : Cx}
def rDictT (K : PySem.W.Frag) : List V → Hp → VK → Prop := fun xs H Q => ∃ (a : Addr) (ps : List Addr) (kvs : List (Key × V)), xs = [.ref a] ∧ SqT K H a (ps.map V.ref) ∧ NoD H a ∧ Paired (fun p kv => SqT K H p [kV kv.1, kv.2]) ps kvs ∧
    ∀ p, H p = none → Q (.ref p) (upd H p (.dK (mergeK [] kvs)))
end
section
variable {K : PySem.W.Frag} {E : XK}
def prsT (m : Mp) : PyData := .tuple (m.map fun p => .tuple [.str p.1, p.2])
def mDictT (w : TD) : TDm := fun X δ Q => w X δ fun x δ1 => ∃ m : Mp, x = prsT m ∧ (m.map (·.1)).Nodup ∧ Q m δ1
instance {t : TE} {w : TD} [p : PuE K E t w] : PuM K E (tCB (rDictT K) (tCons t tNil)) (mDictT w) where
  mono h := p.mono fun _ _ ⟨m, a, c, q⟩ => ⟨m, a, c, h _ _ q⟩
  run {F hd σ H δ Q} hE r q := p.run hE r (p.mono (fun x δ1 ⟨m, ex, nd, q⟩ v hd1 H1 k1 r1 d1 => by
    subst ex
    unfold prsT at d1
    cases d1 with
    | @tup a vs _ hs nD ha =>
      obtain ⟨ps, kvs, rfl, hp, hm⟩ := dp_pairs ha
      have s := vis_in r1
      refine ⟨a, ps, kvs, rfl, Same.seqT s hs, nD.same s, Paired.same s hp, fun p np => ?_⟩
      have e : mergeK [] kvs = kvs := by
        have := merge_nodup (more := kvs) (acc := []) (by
          rw [List.nil_append, hm.1]
          unfold mpK
          rw [List.map_map]
          have : (m.map ((fun x : Key × PyData => x.1) ∘ fun p : Str × PyData => (Sum.inr p.1, p.2))) = (m.map (·.1)).map Sum.inr := by rw [List.map_map]; rfl
          rw [this]
          unfold List.Nodup at nd ⊢
          rw [List.pairwise_map]
          exact nd.imp fun h e => h (Sum.inr.inj e))
        simpa using this
      rw [e]
      obtain ⟨k2, r2, s2⟩ := r1.new (.dK kvs) np
      exact q _ _ _ (k1.trans k2) r2 ⟨p, kvs, rfl, r1.seen np, hm.same s2⟩) q)
instance {al : List Bool} {s : WF} {t : TA} {w : TDa} [p : PuA K E al t w] : PuB K E (fun W => tDrop (tCallS (spFN K al s) (WE W) t)) (bDrop s w) where
  mono h hy := p.mono fun _ _ q => WF.mono (fun _ _ q => h.nx _ q) (fun _ _ z => hy _ _ _ z) q
  run hE r e hY q := p.run hE r (p.mono (fun ds δ1 q vs hd1 H1 k1 r1 d1 => spFN_of (callS_run k1 r1 d1 hY (WF.mono (fun d _ q v hd2 H2 k2 r2 _ => e.nx _ _ _ _ k2.go r2 q) (fun _ _ z => z) q))) q)
end
end Rp

/-! What k17's defs promise. -/
namespace Rp
open PySem PySem.Spec PyProof.Rows L2
theorem deep_l {k : Nat} {ds : List PyData} (h : ds.length ≤ 1000) (hd : ∀ d ∈ ds, Deep k d) : Deep (k + 1) (.list ds) := ⟨h, hd⟩
end Rp

/-! sorted(t), t a tuple of texts -/
namespace Rp
open PySem PySem.Spec PyProof.Rows L2
section
variable {prog : Program} {w : World} {A : Around} {E : Value → Shared → Prop} {s : Shared}
end
/-- sorted of a list or of a tuple of texts -/
def rSortQ (K : PySem.W.Frag) : List V → Hp → VK → Prop := fun vs H Q => ∃ (a : Addr) (xs : List Str), vs = [V.ref a] ∧ (SqL K H a (xs.map V.str) ∨ SqT K H a (xs.map V.str)) ∧ xs.length < 64 ∧ ∀ (ys : List Str) (p : Addr), ys.Perm xs → sortedS ys = true → H p = none → Q (.ref p) (upd H p (.lst (ys.map V.str)))
section
variable {K : PySem.W.Frag} {E : XK}
def fSortQ : Lv → PyData → (PyData → Prop) → Prop := fun _ x Q => ∃ zs : List Str, Items x (zs.map .str) ∧ zs.length < 64 ∧ ∀ ys : List Str, ys.Perm zs → sortedS ys = true → Q (.list (ys.map .str))
instance {t : TE} {w : TRd} [p : PuR K E t w] : PuE K E (tCB (rSortQ K) (tCons t tNil)) (dB1 fSortQ w) where
  mono h := p.mono fun _ _ _ ⟨ds, i, c, q⟩ => ⟨ds, i, c, fun ys a b => h _ _ (q ys a b)⟩
  run hE r q := un1 (t := t) hE r q fun l x δ1 v hd1 H1 k1 r1 d1 ⟨zs, ix, c, q⟩ => by
    obtain ⟨a, vs, rfl, hs, ha⟩ := d1.seq r1.bs ix
    have := strs_of ha
    subst this
    exact ⟨a, zs, rfl, hs.imp (fun h => nt_in.seq h.2) (fun h => Same.seqT nt_in h.2), c, fun ys p h1 h2 np => newLst r1 np (dz_strs ys) ((q ys h1 h2).kp k1)⟩
end
end Rp

/-! enumerate(t), t a list or a tuple -/
namespace Rp
open PySem PySem.Spec PyProof.Rows L2
open AutoSeq1 (wpAny_loadPart')
/-- the tuple at a, each thing in a new pair -/
def ItT (K : PySem.W.Frag) (a : Addr) : It :=
  ⟨fun i H => ∃ (ys : List V) (y : V), SqT K H a ys ∧ ys[i]? = some y, fun i H v H' => ∃ T y, v = .ref T ∧ H T = none ∧ H' = upd H T (.tup [.int (i : Nat), y]) ∧ ∀ ys, SqT K H a ys → ys[i]? = some y, fun i H => ∃ ys : List V, SqT K H a ys ∧ ys.length ≤ i⟩
theorem walk_enT {K : PySem.W.Frag} {a : Addr} {ys : List V} : Walk (ItT K a) ys.length (fun H => SqT K H a ys) (YPair (fun i => some (.int (i : Nat))) (fun i => ys[i]?)) := by
  refine ⟨fun i _ hi q => ⟨ys, ys[i], q, List.getElem?_eq_getElem hi⟩, fun _ q => ⟨ys, q, Nat.le_refl _⟩, fun i H v H' _ q z => ?_⟩
  obtain ⟨T, y, z1, z2, z3, z4⟩ := z
  exact ⟨T, .int (i : Nat), y, z1, z2, z3, rfl, z4 ys q⟩
section
variable {prog : Program} {w : World} {A : Around} {E : Value → Shared → Prop} {s : Shared}
end
def iEnQ (K : PySem.W.Frag) (ta : TA) : TI := fun σ H R => ta σ H fun vs H1 => ∃ a, vs = [.ref a] ∧ (((∃ xs, SqL K H1 a xs) ∧ R (Ite K a) H1) ∨ ((∃ xs, SqT K H1 a xs) ∧ R (ItT K a) H1))
section
variable {K : PySem.W.Frag} {E : XK}
def iEnA (w : TRd) : TDi := fun X δ Q => w X δ fun l x δ1 => ∃ ds, Items x ds ∧ Q l.ch.sh (enD ds) δ1
theorem enT_walk {F : Frm K} {hd : Addr → Prop} {H Hs : Hp} {l : Lv} {a : Addr} {vs : List V} {ds : List PyData} (ha : DzAll K (lvH F hd H l) vs ds) (h : SqT K Hs a vs) : Walk (ItT K a) (enD ds).length (fun H2 => Same Hs H2 ∧ ∀ b, F.T b → (H2 b).isSome = true) (fun i Ha x Hb => Same Ha Hb ∧ ∃ d, (enD ds)[i]? = some d ∧ El K F hd H Hb l.ch.sh x d) := by
  rw [show (enD ds).length = vs.length by simp [enD, DzAll.len ha]]
  refine walk_enT.mono (fun H' s => Same.seqT s.1 h) (fun i Ha x Hb _ g y => ?_)
  obtain ⟨T, x1, x2, rfl, nT, rfl, e1, e2⟩ := y
  cases Option.some.inj e1
  obtain ⟨d, h1, h2⟩ := DzAll.at ha e2
  have nt : ¬ F.T T := fun t => by have := g.2 T t; rw [nT] at this; cases this
  refine ⟨Same.new nT, _, enD_at h1, ?_⟩
  cases l <;> exact ⟨T, _, _, rfl, nt, upd_same, rfl, .cons (.int _) (.cons h2 .nil)⟩
instance {t : TE} {w : TRd} [p : PuR K E t w] : PuI K E (iEnQ K (tCons t tNil)) (iEnA w) where
  mono h := p.mono fun _ _ _ ⟨ds, e, q⟩ => ⟨ds, e, h _ _ _ q⟩
  run {F hd σ H δ R} hE r q := un1 (t := t) hE r q fun l x δ1 v hd1 H1 k1 r1 d1 ⟨ds, e, q⟩ => by
    obtain ⟨a, vs, rfl, hs, ha⟩ := d1.seq r1.bs e
    rcases hs with hs | hs
    · exact ⟨a, rfl, .inl ⟨⟨_, nt_in.seq hs.2⟩, q _ _ _ k1 r1 (en_walk ha hs.2)⟩⟩
    · exact ⟨a, rfl, .inr ⟨⟨_, Same.seqT nt_in hs.2⟩, q _ _ _ k1 r1 (enT_walk ha hs.2)⟩⟩
end
end Rp

/-! What a picking tells of a fruit. -/
namespace Rp
open PySem PySem.Spec PyProof.Rows L2
def aheadG (row : List Str) (f : Str) : List Str := row.take (ixO row f)
def worseG (lk row : List Str) (f : Str) : List Nat := ((aheadG row f).zipIdx.filter fun p => decide (ixO lk f < ixO lk p.1)).map (·.2)
def byG (row : List Str) (f : Str) : Option (List Str) := if f ∈ row then some (aheadG row f) else none
def notByG (lk row : List Str) (f : Str) : Option (List Str) := if f ∈ row then ((worseG lk row f).getLast?).map fun k => (aheadG row f).take k else some row
def OPm (x : PyData) : Option (List Str) → Prop
  | none => x = .none
  | some z => ∃ y : List Str, x = .tuple (y.map .str) ∧ y.Perm z
def lateS : Str := Str.ofString "late"
def soonS : Str := Str.ofString "soon"
def soonG (ls : List (List Str)) : Option (List Str) → Option Str
  | some y => if inOne ls y then some soonS else none
  | none => none
def illG (ls : List (List Str)) : Option (List Str) → Option (List Str) → Option Str
  | some z, nb => if inOne ls z then soonG ls nb else some lateS
  | none, nb => soonG ls nb
def illsG (G : Gr) (lk row : List Str) : List (Str × Str) := G.filterMap fun p => (illG p.2 (byG row p.1) (notByG lk row p.1)).map fun w => (p.1, w)
def wf_fruitsB : WF := { G := Gr, pre := fun g ds _ => ∃ a, ds = [a] ∧ flat a = grD g ∧ okGr g, post := fun g d _ => d = .list ((g.map (·.1)).map .str) }
section
variable {K : PySem.W.Frag} {E : XK}
/-- a, d = [..], dict(..) -/
def sParM (i j : Nat) (wa : TDa) (wb : TDm) : TDs := fun X P δ => wa X δ fun ds δ1 => wb X δ1 fun m δ2 => P.nx ⟨(δ2.v.set i (.own ds)).set j (.obj (.map (mpK m))), δ2.n⟩
instance (priority := 1200) {i j : Nat} {ta tb : TE} {wa : TDa} {wb : TDm} [pa : PuN K E ta wa] [pb : PuM K E (tCB (rDictT K) (tCons tb tNil)) wb] : PuS K E (tPar i j (tCons ta (tCons (tCB (rDictT K) (tCons tb tNil)) tNil))) (sParM i j wa wb) where
  mono h := pa.mono fun _ _ => pb.mono fun _ _ q => h.nx _ q
  run {F hd σ H δ P D} hE r e q := pa.run hE r (pa.mono (fun ds δ1 q p vs hd1 H1 k1 r1 r2 np n0 h1 dd => pb.run (F := F.more p) hE (r1.mk_more r2 np) (pb.mono (fun m δ2 q v hd2 H2 k2 r3 d3 => by
    have nT : ¬ F.T p := fun t => by have := F.ta p t; rw [n0.1] at this; cases this
    have nN : ¬ F.N p := fun z => np (r1.nH p z)
    have hp : hd2 p := r3.nH p (.inr rfl)
    obtain ⟨rF, r0⟩ := r3.un_more nN
    have ee : (fun b => (hd2 b ∧ b ≠ p) ∨ b = p) = hd2 := by
      funext b
      by_cases c : b = p
      · simp [c, hp]
      · simp [c]
    have g2 : Go F (fun b => hd1 b ∨ b = p) H1 hd2 H2 := ⟨fun b o h t _ => k2.kp b o h t, fun b z => .inl (k2.less b z)⟩
    have dd2 : DzAll K (vis F hd2 H2) vs ds := DzAll.same (vis_go r2.bs g2) dd
    have rO : Rep K F (fun b => (hd2 b ∧ b ≠ p) ∨ b = p) (σ.set i (some (.ref p))) H2 ⟨δ2.v.set i (.own ds), δ2.n⟩ := r0.setOwn (i := i) (by rw [ee]; exact rF) (fun z => z.2 rfl) (k2.kp _ _ h1 nT) (by rw [ee]; exact dd2)
    rw [ee] at rO
    have d3 : ObAt K (vis F hd2 H2) v (.map (mpK m)) := d3
    refine ⟨.ref p, v, rfl, e.nx _ _ _ _ ⟨fun b o h t n => k2.kp b o (k1.kp b o h t) t, fun b z => ?_⟩ (rO.setObj (i := j) d3) q⟩
    rcases k2.less b z with z | z
    · exact .inl (k1.less b z)
    · right; rw [z]; exact n0.2) q)) q)
end
theorem worse_range (lk row : List Str) (f : Str) (p : Nat → Bool) (hp : ∀ k z, (aheadG row f)[k]? = some z → p k = decide (ixO lk f < ixO lk z)) : (List.range (aheadG row f).length).filter p = worseG lk row f := by
  unfold worseG
  generalize aheadG row f = l at hp
  have e : List.range l.length = l.zipIdx.map (·.2) := by
    apply List.ext_getElem?
    intro i
    by_cases c : i < l.length
    · simp [c]
    · rw [List.getElem?_eq_none (by simp; omega), List.getElem?_eq_none (by simp; omega)]
  rw [e, List.filter_map]
  congr 1
  apply List.filter_congr
  rintro ⟨z, k⟩ hm
  exact hp k z (List.mem_zipIdx_iff_getElem?.mp hm)
end Rp

/-! a, b = [..], y where one of the names is a cell: a real tuple; a, b, c = x, y, [..]; isinstance of a kept error by two classes. -/
namespace Rp
open PySem PySem.Spec PyProof.Rows L2
section
variable {K : PySem.W.Frag} {E : XK}
/-- behind both things, with the tuple laid -/
theorem tup_own {F : Frm K} {hd hd1 hd2 : Addr → Prop} {σ : L2.St} {H H1 H2 : Hp} {δ1 δ2 : DS} {i : Nat} {p q : Addr} {ob : Obj} {v : V} {vs : List V} {ds : List PyData} (k1 : Kp F hd H hd1 H1) (r1 : Rep K F hd1 σ H1 δ1) (r2 : Rep K F (fun b => hd1 b ∨ b = p) σ H1 δ1) (np : ¬ hd1 p) (n0 : F.H0 p = none ∧ H p = none) (h1 : H1 p = some (.lst vs)) (dd : DzAll K (vis F (fun b => hd1 b ∨ b = p) H1) vs ds)
    (k2 : Kp (F.more p) (fun b => hd1 b ∨ b = p) H1 hd2 H2) (r3 : Rep K (F.more p) hd2 σ H2 δ2) (nq : H2 q = none) :
    Go F hd H hd2 (upd H2 q (.frz ob (.tup [.ref p, v]))) ∧ Rep K F hd2 (σ.set i (some (.ref p))) (upd H2 q (.frz ob (.tup [.ref p, v]))) ⟨δ2.v.set i (.own ds), δ2.n⟩ ∧ Same (vis F hd2 H2) (vis F hd2 (upd H2 q (.frz ob (.tup [.ref p, v])))) := by
  have nT : ¬ F.T p := fun t => by have := F.ta p t; rw [n0.1] at this; cases this
  have nN : ¬ F.N p := fun z => np (r1.nH p z)
  have hp : hd2 p := r3.nH p (.inr rfl)
  obtain ⟨rF, r0⟩ := r3.un_more nN
  have ee : (fun b => (hd2 b ∧ b ≠ p) ∨ b = p) = hd2 := by
    funext b
    by_cases c : b = p
    · simp [c, hp]
    · simp [c]
  have g2 : Go F (fun b => hd1 b ∨ b = p) H1 hd2 H2 := ⟨fun b o h t _ => k2.kp b o h t, fun b z => .inl (k2.less b z)⟩
  have dd2 : DzAll K (vis F hd2 H2) vs ds := DzAll.same (vis_go r2.bs g2) dd
  have rO : Rep K F (fun b => (hd2 b ∧ b ≠ p) ∨ b = p) (σ.set i (some (.ref p))) H2 ⟨δ2.v.set i (.own ds), δ2.n⟩ := r0.setOwn (i := i) (by rw [ee]; exact rF) (fun z => z.2 rfl) (k2.kp _ _ h1 nT) (by rw [ee]; exact dd2)
  rw [ee] at rO
  obtain ⟨_, r4, s4⟩ := rO.new (.frz ob (.tup [.ref p, v])) nq
  refine ⟨⟨fun b o h t n => (Same.new nq) b o (k2.kp b o (k1.kp b o h t) t), fun b z => ?_⟩, r4, s4⟩
  rcases k2.less b z with z | z
  · exact .inl (k1.less b z)
  · right; rw [z]; exact n0.2
def sTupO (i j : Nat) (wa : TDa) (wb : TD) : TDs := fun X P δ => wa X δ fun ds δ1 => wb X δ1 fun y δ2 => P.nx ⟨(δ2.v.set i (.own ds)).set j (.dat y), δ2.n⟩
instance (priority := 2000) {i j : Nat} {ta tb : TE} {wa : TDa} {wb : TD} [pa : PuN K E ta wa] [pb : PuE K E tb wb] : PuS K E (tAsg (tTupZ (tCons ta (tCons tb tNil))) (gTup K 2 (gCons (gName i) (gCons (gName j) gNil)))) (sTupO i j wa wb) where
  mono h := pa.mono fun _ _ => pb.mono fun _ _ q => h.nx _ q
  run {F hd σ H δ P D} hE r e q := pa.run hE r (pa.mono (fun ds δ1 q p vs hd1 H1 k1 r1 r2 np n0 h1 dd => pb.run (F := F.more p) hE (r1.mk_more r2 np) (pb.mono (fun y δ2 q v hd2 H2 k2 r3 d3 => ⟨by rw [sizeLine_eq]; simp, fun t ob nt _ => by
    obtain ⟨g, rO, s⟩ := tup_own (i := i) (ob := ob) (v := v) k1 r1 r2 np n0 h1 dd k2 r3 nt
    have d3 : Dz K (vis F hd2 H2) v y := d3
    exact ⟨t, [.ref p, v], rfl, .inl (.inr ⟨ob, upd_same⟩), rfl, _, _, rfl, _, _, rfl, rfl, e.nx _ _ _ _ g (rO.setDat (i := j) (Dz.same s d3)) q⟩⟩) q)) q)
def sTupM (i j : Nat) (wa : TDa) (wb : TDm) : TDs := fun X P δ => wa X δ fun ds δ1 => wb X δ1 fun m δ2 => P.nx ⟨(δ2.v.set i (.own ds)).set j (.obj (.map (mpK m))), δ2.n⟩
instance (priority := 2200) {i j : Nat} {ta tb : TE} {wa : TDa} {wb : TDm} [pa : PuN K E ta wa] [pb : PuM K E (tCB (rDictT K) (tCons tb tNil)) wb] : PuS K E (tAsg (tTupZ (tCons ta (tCons (tCB (rDictT K) (tCons tb tNil)) tNil))) (gTup K 2 (gCons (gName i) (gCons (gName j) gNil)))) (sTupM i j wa wb) where
  mono h := pa.mono fun _ _ => pb.mono fun _ _ q => h.nx _ q
  run {F hd σ H δ P D} hE r e q := pa.run hE r (pa.mono (fun ds δ1 q p vs hd1 H1 k1 r1 r2 np n0 h1 dd => pb.run (F := F.more p) hE (r1.mk_more r2 np) (pb.mono (fun m δ2 q v hd2 H2 k2 r3 d3 => ⟨by rw [sizeLine_eq]; simp, fun t ob nt _ => by
    obtain ⟨g, rO, s⟩ := tup_own (i := i) (ob := ob) (v := v) k1 r1 r2 np n0 h1 dd k2 r3 nt
    have d3 : ObAt K (vis F hd2 H2) v (.map (mpK m)) := d3
    exact ⟨t, [.ref p, v], rfl, .inl (.inr ⟨ob, upd_same⟩), rfl, _, _, rfl, _, _, rfl, rfl, e.nx _ _ _ _ g (rO.setObj (i := j) (ObAt.same s d3)) q⟩⟩) q)) q)
/-- a, b, c = x, y, [..] -/
def sPar3N (i j l : Nat) (wa wb : TD) (wc : TDa) : TDs := fun X P δ => wa X δ fun x δ1 => wb X δ1 fun y δ2 => wc X δ2 fun ds δ3 => P.nx ⟨((δ3.v.set i (.dat x)).set j (.dat y)).set l (.own ds), δ3.n⟩
instance (priority := 2000) {i j l : Nat} {ta tb tc : TE} {wa wb : TD} {wc : TDa} [pa : PuE K E ta wa] [pb : PuE K E tb wb] [pc : PuN K E tc wc] : PuS K E (tPar3 i j l (tCons ta (tCons tb (tCons tc tNil)))) (sPar3N i j l wa wb wc) where
  mono h := pa.mono fun _ _ => pb.mono fun _ _ => pc.mono fun _ _ q => h.nx _ q
  run {F hd σ H δ P D} hE r e q := pa.run hE r (pa.mono (fun x δ1 q u hd1 H1 k1 r1 d1 => pb.run hE r1 (pb.mono (fun y δ2 q v hd2 H2 k2 r2 d2 => pc.run hE r2 (pc.mono (fun ds δ3 q p vs hd3 H3 k3 r3 r4 np n0 h1 dd => by
    have g : Go F hd2 H2 (fun b => hd3 b ∨ b = p) H3 := ⟨fun b o h t _ => k3.kp b o h t, fun b z => z.elim (fun z => .inl (k3.less b z)) fun z => .inr (by rw [z]; exact n0.2)⟩
    have d1' := Dz.same (vis_go r1.bs k2.go) d1
    have rA := (r3.setDat (i := i) (Dz.same (vis_go r2.bs k3.go) d1')).setDat (i := j) (Dz.same (vis_go r2.bs k3.go) d2)
    have rB := (r4.setDat (i := i) (Dz.same (vis_go r2.bs g) d1')).setDat (i := j) (Dz.same (vis_go r2.bs g) d2)
    refine ⟨u, v, .ref p, rfl, e.nx _ _ _ _ ?_ (rA.setOwn (i := l) rB np h1 dd) q⟩
    exact ((k1.trans k2).go).trans r2.bs rB.bs g) q)) q)) q)
instance {i : Nat} {c1 c2 : V} : PuE K E (tCB (rIsHT K) (tCons (tVar i) (tCons (tTup (tCons (tC c1) (tCons (tC c2) tNil))) tNil))) (dIsHT K i c1 c2) where
  mono h := fun ⟨C, d, u1, u2, b, e1, e2, e3, e4, e5, q⟩ => ⟨C, d, u1, u2, b, e1, e2, e3, e4, e5, h _ _ q⟩
  run {F hd σ H δ Q} _ r := fun ⟨C, d, u1, u2, b, e1, e2, e3, e4, e5, q⟩ => by
    obtain ⟨v, h1, a, dd, w, rfl, g1, g2, g3⟩ := r.vars i _ e1
    have s := vis_in r
    refine ⟨.ref a, h1, by rw [sizeLine_eq]; simp, fun p np => ?_⟩
    obtain ⟨k, r', _⟩ := r.new (.tup [c1, c2]) np
    refine ⟨a, C, dd, [(("what" : Str), w)], p, [c1, c2], [u1, u2], b, rfl, ?_, ?_, e2, upd_same, .cons e3 (.cons e4 .nil), e5, q _ _ _ k r' (.bl _)⟩
    · exact (Same.new np) _ _ (s _ _ g1)
    · exact (Same.new np) _ _ (s _ _ g2)
end
end Rp

/-! What a picking tells of a fruit, as the law tells it. -/
namespace Rp
open PySem PySem.Spec PyProof.Rows L2
/-! ### rising texts are the same in one order alone -/
theorem eq_of_rising {α : Type} {R : α → α → Prop} (anti : ∀ a b, R a b → R b a → a = b) : ∀ {y z : List α}, y.Pairwise R → z.Pairwise R → y.Perm z → y = z
  | [], z, _, _, p => (List.nil_perm.mp p).symm
  | a :: y, [], _, _, p => by have := p.length_eq; simp at this
  | a :: y, b :: z, hy, hz, p => by
    have hy' := List.pairwise_cons.mp hy
    have hz' := List.pairwise_cons.mp hz
    have e : a = b := by
      rcases List.mem_cons.mp (p.mem_iff.mp List.mem_cons_self) with h | h
      · exact h
      · rcases List.mem_cons.mp (p.mem_iff.mpr List.mem_cons_self) with g | g
        · exact g.symm
        · exact anti _ _ (hy'.1 _ g) (hz'.1 _ h)
    subst e
    rw [eq_of_rising anti hy'.2 hz'.2 (List.Perm.cons_inv p)]
def leS (a b : Str) : Prop := a.cps.toList ≤ b.cps.toList
theorem rising_pw : ∀ {r : List Str} {p : Str}, risingS p r = true → (p :: r).Pairwise leS
  | [], p, _ => List.pairwise_singleton _ _
  | x :: r, p, h => by
    unfold risingS at h
    rw [Bool.and_eq_true, ltCps_eq] at h
    have le : leS p x := by
      have := h.1
      simp only [Bool.not_eq_true', decide_eq_false_iff_not] at this
      exact List.not_lt.mp this
    have t := rising_pw h.2
    refine List.pairwise_cons.mpr ⟨fun y hy => ?_, t⟩
    rcases List.mem_cons.mp hy with rfl | hy
    · exact le
    · exact List.le_trans le ((List.pairwise_cons.mp t).1 y hy)
theorem sorted_pw {y : List Str} (h : sortedS y = true) : y.Pairwise leS := by
  cases y with
  | nil => exact .nil
  | cons p r => exact rising_pw h
theorem sorted_one {y z : List Str} (hy : sortedS y = true) (hz : sortedS z = true) (p : y.Perm z) : y = z :=
  eq_of_rising (fun a b h1 h2 => by
    have e : a.cps.toList = b.cps.toList := List.le_antisymm h1 h2
    cases a; cases b
    simp only [Str.mk.injEq]
    exact Array.toList_inj.mp e) (sorted_pw hy) (sorted_pw hz) p
/-! ### promises -/
def OPs (x : PyData) : Option (List Str) → Prop
  | none => x = .none
  | some z => ∃ y : List Str, x = .tuple (y.map .str) ∧ y.Perm z ∧ sortedS y = true
theorem OPs.one {x x' : PyData} {o : Option (List Str)} (h : OPs x o) (h' : OPs x' o) : x = x' := by
  cases o with
  | none => exact (show x = .none from h).trans (show x' = .none from h').symm
  | some z =>
    obtain ⟨y, rfl, p, s⟩ := h
    obtain ⟨y', rfl, p', s'⟩ := h'
    rw [sorted_one s s' (p.trans p'.symm)]
structure Prs (zs : List Str) (W : Gr) : Prop where
  fs : W.map (·.1) = zs
  lots : ∀ p ∈ W, p.2.length ≤ 3 ∧ ∀ z ∈ p.2, z.length ≤ 26 ∧ z.Nodup ∧ ∀ x ∈ z, x ∈ zs ∧ x ≠ p.1
/-! ### going along the row -/
def worseP (lk row : List Str) (f : Str) (k : Nat) : Bool := match row[k]? with
  | some z => decide (ixO lk f < ixO lk z)
  | none => false
def nbN (lk row : List Str) (f : Str) (i : Nat) : Option (List Str) := (((List.range i).filter (worseP lk row f)).getLast?).map fun k => row.take k
theorem ix_len {l : List Str} {z : Str} (h : z ∉ l) : ixO l z = l.length := by
  unfold ixO
  refine List.findIdx_eq_length.mpr fun x hx => ?_
  have : x ≠ z := fun e => h (e ▸ hx)
  simpa using this
theorem ix_le (l : List Str) (z : Str) : ixO l z ≤ l.length := List.findIdx_le_length
theorem nb_in {lk row : List Str} {f : Str} (h : f ∈ row) : notByG lk row f = nbN lk row f (ixO row f) := by
  have al : (aheadG row f).length = ixO row f := by unfold aheadG; rw [List.length_take]; have := ix_le row f; omega
  have hw := worse_range lk row f (worseP lk row f) (fun k z e => by
    unfold aheadG at e
    rw [List.getElem?_take] at e
    split at e
    · unfold worseP; rw [e]
    · cases e)
  unfold notByG nbN
  rw [if_pos h, ← hw, al]
  cases e : ((List.range (ixO row f)).filter (worseP lk row f)).getLast? with
  | none => rfl
  | some k =>
    have kl : k < ixO row f := List.mem_range.mp (List.mem_filter.mp (List.mem_of_getLast? e)).1
    simp only [Option.map_some]
    unfold aheadG
    rw [List.take_take, Nat.min_eq_left (by omega)]
/-- where one stands, along the row -/
def atRow (lk row : List Str) (f : Str) (i : Nat) (x y : PyData) : Prop := (if ixO row f < i then OPs x (some (row.take (ixO row f))) else x = .none) ∧ OPs y (nbN lk row f (min i (ixO row f)))
theorem atRow.start (lk row : List Str) (f : Str) : atRow lk row f 0 .none .none := by
  refine ⟨by rw [if_neg (by omega)], ?_⟩
  rw [Nat.zero_min]
  rfl
theorem nd_ix {row : List Str} {f : Str} {i : Nat} (nd : row.Nodup) (h : row[i]? = some f) : ixO row f = i := by
  have m := List.mem_of_getElem? h
  have h2 := (ixO_at m).1
  exact (List.getElem?_inj (List.getElem?_eq_some_iff.mp h2).1 nd).mp (h2.trans h.symm)
theorem atRow.hit {lk row : List Str} {f : Str} {i : Nat} {x y : PyData} {ys : List Str} (nd : row.Nodup) (ez : row[i]? = some f) (pm : ys.Perm (row.take i)) (so : sortedS ys = true) (h : atRow lk row f i x y) : atRow lk row f (i + 1) (.tuple (ys.map .str)) y := by
  have e := nd_ix nd ez
  obtain ⟨_, h2⟩ := h
  unfold atRow
  rw [e] at h2 ⊢
  rw [if_pos (by omega)]
  rw [Nat.min_self] at h2
  rw [Nat.min_eq_right (by omega)]
  exact ⟨⟨ys, rfl, pm, so⟩, h2⟩
theorem atRow.no {lk row : List Str} {f : Str} {i : Nat} {x y : PyData} (h : atRow lk row f i x y) : isNo x = !decide (ixO row f < i) := by
  obtain ⟨h1, _⟩ := h
  by_cases c : ixO row f < i
  · rw [if_pos c] at h1
    obtain ⟨ys, rfl, _⟩ := h1
    simp [c, isNo]
  · rw [if_neg c] at h1
    subst h1
    simp [c, isNo]
theorem atRow.in {lk row : List Str} {f : Str} {x y : PyData} (h : atRow lk row f row.length x y) (c : ixO row f < row.length) : OPs x (byG row f) ∧ OPs y (notByG lk row f) := by
  have fm : f ∈ row := by
    by_cases fm : f ∈ row
    · exact fm
    · have := ix_len fm; omega
  obtain ⟨h1, h2⟩ := h
  rw [if_pos c] at h1
  rw [Nat.min_eq_right (by omega)] at h2
  rw [nb_in fm]
  unfold byG
  rw [if_pos fm]
  exact ⟨h1, h2⟩
end Rp

/-! min(xs, key=lambda x: ..): a lambda of one parameter, asked for each thing of a list. -/
namespace Rp
open PySem PySem.Spec PyProof.Rows L2
/-! ### a list of known things is walked -/
theorem walk_rel {prog : Program} {w : World} {A : Around} (hh : A.handled = none) (it l : Addr) (ne : l ≠ it) (xs : List V) :
    WalksS prog w A it [it, l] [it] (fun a b => b = a) xs.length (fun i v => ∃ x, xs[i]? = some x ∧ RelV x v) (fun i s => s.heap.IsListIter it l i ∧ ∃ its : List Value, Vals xs its ∧ s.heap.IsList l its.toArray) where
  sub := fun b hb => by rw [List.mem_singleton.mp hb]; exact List.mem_cons_self
  grefl := fun _ => rfl
  gtrans := fun _ _ _ h1 h2 => h2.trans h1
  frame := fun i s h' tk st _ k => by
    obtain ⟨s1, its, rv, s2⟩ := st
    have := (Walks.list (prog := prog) (w := w) (A := A) hh it l ne its.toArray).frame i s.heap h' ⟨s1, s2⟩ k
    exact ⟨this.1, its, rv, this.2⟩
  item := fun i s Q E hi st hQ => by
    obtain ⟨s1, its, rv, s2⟩ := st
    have ln := rv.length
    refine (Walks.list (prog := prog) (w := w) (A := A) hh it l ne its.toArray).toS.item i s Q E (by rw [List.size_toArray, ← ln]; exact hi) ⟨s1, s2⟩ fun v s' hP st' mv => ?_
    refine hQ v s' ?_ ⟨st'.1, its, rv, st'.2⟩ mv
    have hv : its[i]? = some v := by simpa using hP
    obtain ⟨u, hu, ru⟩ := Vals.get rv (List.getElem?_eq_getElem hi)
    rw [hv] at hu; cases hu
    exact ⟨_, List.getElem?_eq_getElem hi, ru⟩
  done := fun s Q E st hQ => by
    obtain ⟨s1, its, rv, s2⟩ := st
    have ln := rv.length
    refine (Walks.list (prog := prog) (w := w) (A := A) hh it l ne its.toArray).toS.done s Q E ?_ hQ
    rw [List.size_toArray, ← ln]
    exact ⟨s1, s2⟩
  self := fun i s Q E st hQ => wpAny_pyIter_listiter st.1 hQ
/-! ### a lambda of one parameter -/
structure Lam1 (sc scope : Scope) (p : Str) : Prop where
  kind : scope.kind = .function
  co : scope.isCoroutine = false
  gen : scope.isGenerator = false
  nocell : ∀ y ∈ scope.names, y.2 ≠ .cell
  one : ∀ y ∈ scope.names, y.2 = .local → y.1 = p
  par : scope.names.lookup p = some .local
  free : ∀ y ∈ scope.names, y.2 = .free → sc.names.lookup y.1 = some .cell ∨ sc.names.lookup y.1 = some .free
def noX : XK := fun _ _ _ => False
/-- the body's context: the maker's names, and the parameter behind them -/
def lamCx1 (X : Cx) (A : Around) (outer : List Env) (s : Shared) (H : Hp) (scope : Scope) (f c : Addr) (p : Str) : Cx := { LamX.lamCx X A outer s H noX scope f c with N := X.N ++ [p] }
section
variable {X : Cx} {pins : List (Addr × Obj)} {σ : L2.St} {H : Hp} {s : Shared}
theorem lam1_start {scope : Scope} {f c : Addr} {p : Str} {h1 : Heap} {tk : Nat} {x : V} {u : Value} (I : Inv X pins σ H s) (L : Lam1 X.env.scope scope p) (nin : p ∉ X.N) (calm : X.A.in1.handled = none) (rx : RelV x u)
    (own : h1.Ns s.heap.objs.size fun y => [(p, u)].reverse.lookup y) (kept : ∀ b o, s.heap.get? b = some o → h1.get? b = some o) :
    Inv (lamCx1 X X.A.in1 X.stack s H scope f c p) [] (σ ++ [some x]) H { s with heap := h1, toks := tk } := by
  have e0 := I.env0.in1
  have has : ∀ y ∈ scope.names, y.2 = .free → ∃ d, X.env.cells.lookup y.1 = some d := fun y hy e => I.ok.has _ ((L.free y hy e).imp id id)
  have back : ∀ {y : Str} {d : Addr}, (cloFrom X.env.cells scope.names []).lookup y = some d → X.env.cells.lookup y = some d := fun {y d} e => by
    rcases cloFrom_mem (PySem.mem_of_lookup e) with z | ⟨z1, z2⟩
    · cases z
    · obtain ⟨d', hd⟩ := has _ z1 rfl
      have hd : X.env.cells.lookup y = some d' := hd
      have z2 : d = (X.env.cells.lookup y).getD 0 := z2
      rw [hd] at z2 ⊢
      rw [z2]; rfl
  have there : ∀ {y : Str}, scope.names.lookup y = some .free → ∃ d, (cloFrom X.env.cells scope.names []).lookup y = some d := fun {y} e => L2.mem_lookup (cloFrom_has (cells := X.env.cells) (acc := []) (PySem.mem_of_lookup e))
  have cellK : ∀ {d : Addr} {v : Option Value}, s.heap.IsCell d v → h1.IsCell d v := fun {d v} z => by
    obtain ⟨o, ho, hd⟩ := z
    exact ⟨o, kept _ _ ho, hd⟩
  have okX : (lamCx1 X X.A.in1 X.stack s H scope f c p).Ok :=
    { mod := e0.mod, kind := L.kind, glob := rfl, blt := rfl, above := Nat.le_refl _
      inj := fun y z d e1 e2 => I.ok.inj y z d (back e1) (back e2)
      has := fun y hy => by
        have hy : scope.names.lookup y = some .cell ∨ scope.names.lookup y = some .free := hy
        rcases hy with hy | hy
        · exact absurd rfl (L.nocell _ (PySem.mem_of_lookup hy))
        · exact there hy
      cab := fun y d z => by have z : false = true := z; cases z
      hd := fun _ => calm
      frames := Around.frames_deeper e0.frames
      stk := .inr ⟨rfl, rfl⟩
      exf := fun b z => by cases (show b ∈ ([] : List Addr) from z)
      bs := e0.bs, bsz := e0.bsz
      noex := fun b o _ z => by cases (show b ∈ ([] : List Addr) from z)
      exfs := fun b z => by cases (show b ∈ ([] : List Addr) from z)
      funs := e0.funs, frf := e0.frf }
  refine { ok := okX, os := rfl, bare := e0.bare, base := Un.kept kept, loc := ⟨_, own, fun i y v e1 e2 e3 => ?_⟩, cell := fun y d e => ?_, free := e0.hok.fresh (Nat.le_refl _), freeC := fun y d e => I.freeC y d (back e), pin := fun q hq => absurd (show q ∈ ([] : List (Addr × Obj)) from hq) (by simp), hok := e0.hok.kept kept, len := by show (σ ++ [some x]).length = (X.N ++ [p]).length; simp [I.len] }
  · have e1 : (X.N ++ [p])[i]? = some y := e1
    have e3 : Vis scope y := e3
    by_cases lt : i < X.N.length
    · rw [List.getElem?_append_left lt] at e1
      rw [List.getElem?_append_left (by rw [I.len]; exact lt)] at e2
      rcases e3 with k | k | k
      · exact absurd (by rw [← L.one _ (PySem.mem_of_lookup k) rfl]; exact List.mem_of_getElem? e1) nin
      · exact absurd rfl (L.nocell _ (PySem.mem_of_lookup k))
      · obtain ⟨m, _, hl⟩ := I.loc
        have fr := L.free _ (PySem.mem_of_lookup k) rfl
        obtain ⟨u', r', q⟩ := hl i y v e1 e2 (.inr fr)
        obtain ⟨d, hd⟩ := there k
        refine ⟨u', r', .inr ⟨.inr k, d, hd, ?_⟩⟩
        rcases q with ⟨k', _⟩ | ⟨_, d', e', z⟩
        · have k' : X.env.scope.names.lookup y = some .local := k'
          rcases fr with fr | fr <;> rw [show X.env.scope.names.lookup y = _ from fr] at k' <;> cases k'
        · rw [back hd] at e'; cases e'
          exact cellK z
    · have il : i = X.N.length := by
        have := (List.getElem?_eq_some_iff.mp e1).1
        rw [List.length_append, List.length_singleton] at this
        omega
      subst il
      rw [List.getElem?_append_right (Nat.le_refl _), Nat.sub_self] at e1
      rw [List.getElem?_append_right (by rw [I.len]; exact Nat.le_refl _), I.len, Nat.sub_self] at e2
      cases e1; cases e2
      exact ⟨u, rx, .inl ⟨L.par, by simp⟩⟩
  · obtain ⟨v, z⟩ := I.cell y d (back e)
    exact ⟨v, cellK z⟩
/-- the lambda is asked for one thing, from its maker's own frame -/
theorem lam1_call {scope : Scope} {f c : Addr} {p : Str} {params : Arguments} {body : Expr} {pm ctv : Value} {k : Nat} {x : V} {u : Value} {tb : TE} {Q : VK} (I : Inv X pins σ H s) (L : Lam1 X.env.scope scope p) (nin : p ∉ X.N) (room : Room (k + 2) X.A)
    (hf : s.heap.get? f = some (PySem.W.kla_obj "<lambda>" (X.env.qual ++ "<lambda>") params body scope (cloFrom X.env.cells scope.names []) pm c ctv)) (hco : H c = some (LamX.CodeO c (X.env.qual ++ "<lambda>")))
    (hbind : bindArgs (PySem.W.kla_fn "<lambda>" (X.env.qual ++ "<lambda>") params body scope (cloFrom X.env.cells scope.names []) pm (.ref c) ctv) ⟨[u], []⟩ = pure [(p, u)]) (rx : RelV x u)
    (hbody : ∀ (A : Around) (outer : List Env) (s : Shared) (H : Hp), Room k (A.deeper (LamX.lamEnv X scope s.heap.objs.size f c)) → PE (lamCx1 X A outer s H scope f c p) body tb) (ht : tb (σ ++ [some x]) H Q) :
    wpAny (model X.prog X.w) X.A.in1 (call (.ref f) [u]) (fun v s' => CE X.stack X.prog X.w H s Q v s') (fun _ _ => False) s := by
  have room1 : Room (k + 1) X.A.in1 := room.in1
  obtain ⟨⟨oc, vs, t, hoc, hdc, hvc⟩, _, _⟩ := I.hok c _ hco
  have run : codeAny (model X.prog X.w) X.A.in1 (.call (.ref f) ⟨[u], []⟩) (CR (L2.CX X.prog X.w) X.stack X.prog X.w H s Q noX) s := by
    refine PySem.W.kla_callFunE room1.depth hf rfl L.co L.gen rfl ⟨c, oc, vs, t, rfl, hoc, hdc, hvc⟩ ?_
    rw [hbind]
    refine wpAny_pure (wpAny_newFunctionEnv L.nocell (fun y hy => by rw [List.mem_singleton.mp hy]; exact L.par) (fun h1 hns hsb => ⟨I.nolimit.fresh _ hsb, ?_⟩) L.kind)
    have kept : ∀ b o, s.heap.get? b = some o → h1.get? b = some o := fun b o e => hsb.extBut b o (Nat.ne_of_lt (Heap.lt_size e)) (Heap.get?_push_of_some _ e)
    have J := lam1_start (f := f) (c := c) (tk := s.toks + [(p, u)].length) I L nin room1.hd rx hns kept
    refine PySem.W.kla_codeExpr (wpAny_mono ((hbody _ _ s H (room1.deeper _)).run [] _ _ H Q J ht) (fun v s' z => ?_) fun e s' z => z)
    obtain ⟨v', H', J', rv, q⟩ := z
    exact ⟨v', H', J'.os, J'.bare, J'.base, J'.hok, rv, q⟩
  refine wpAny_call (codeAny_mono run fun r s' z => ?_)
  cases r with
  | error e =>
    obtain ⟨_, _, _, _, _, _, _, _, _, _, _, _, z⟩ := (show L2.CX X.prog X.w X.stack H s noX e s' from z)
    exact z
  | ok fl =>
    cases fl with
    | ret w => exact z
    | next => exact z
    | brk => exact z
    | cont => exact z
theorem fp_stack (I : Inv X pins σ H s) {b : Addr} (h : FpOk X pins H b) : b ∉ frs X.stack := fun z => by
  rcases List.mem_cons.mp (I.stkSub b z) with e | e
  · exact h.2.1 e
  · exact h.2.2.1 e
/-- min by the lambda's answers -/
theorem min_run {scope : Scope} {f c l : Addr} {p : Str} {params : Arguments} {body : Expr} {pm ctv : Value} {k : Nat} {tb : TE} {Q : VK} {E : Value → Shared → Prop} {xs : List V} (kf : V → Int) (I : Inv X pins σ H s) (L : Lam1 X.env.scope scope p) (nin : p ∉ X.N) (room : Room (k + 2) X.A)
    (hf : s.heap.get? f = some (PySem.W.kla_obj "<lambda>" (X.env.qual ++ "<lambda>") params body scope (cloFrom X.env.cells scope.names []) pm c ctv)) (hfn : H f = none) (hfr : f ∉ frs X.stack) (hco : H c = some (LamX.CodeO c (X.env.qual ++ "<lambda>")))
    (hbind : ∀ u, bindArgs (PySem.W.kla_fn "<lambda>" (X.env.qual ++ "<lambda>") params body scope (cloFrom X.env.cells scope.names []) pm (.ref c) ctv) ⟨[u], []⟩ = pure [(p, u)])
    (hbody : ∀ (A : Around) (outer : List Env) (s : Shared) (H : Hp), Room k (A.deeper (LamX.lamEnv X scope s.heap.objs.size f c)) → PE (lamCx1 X A outer s H scope f c p) body tb)
    (hS : SqL X.K H l xs) (hne : 0 < xs.length) (ht : ∀ x ∈ xs, tb (σ ++ [some x]) H fun v H' => v = .int (kf x) ∧ H' = H)
    (q : ∀ x ∈ xs, (∀ y ∈ xs, kf x ≤ kf y) → Q x H) :
    wpAny (model X.prog X.w) X.A (call (.builtin "min") [.ref l] [(Str.ofString "key", .ref f)]) (EP X pins σ Q) E s := by
  obtain ⟨its0, rv0, pl0, _⟩ := I.list hS
  have ll : l < s.heap.objs.size := by obtain ⟨o, _, e, _⟩ := pl0; exact Heap.lt_size e
  have fl : f < s.heap.objs.size := Heap.lt_size hf
  refine call_min_walkK (wpAny_pyIter_list pl0.isList ?_)
  let s2 : Shared := { s with heap := s.heap.push { cls := .type "list_iterator", data := .fields #[.ref l, .int 0 0] } }
  have sz2 : s2.heap.objs.size = s.heap.objs.size + 1 := Heap.size_push ..
  have I2 : Inv X pins σ H s2 := I.kept (t' := s.toks) fun b o e => Heap.get?_push_of_some _ e
  have fpI : FpOk X pins H s.heap.objs.size := I.fpOk (Nat.le_refl _) (I.hok.fresh (Nat.le_refl _))
  have fpS : FpOk X pins H s2.heap.objs.size := I2.fpOk (Nat.le_refl _) (I2.hok.fresh (Nat.le_refl _))
  let num : Nat → Int := fun i => (xs[i]?.map kf).getD 0
  have numE : ∀ {i : Nat} {x : V}, xs[i]? = some x → num i = kf x := fun {i x} e => by show (xs[i]?.map kf).getD 0 = kf x; rw [e]; rfl
  refine ⟨s.heap.objs.size, [s.heap.objs.size, l], [s.heap.objs.size], fun a b => b = a, xs.length, _, _, fun s' => Inv X pins σ H s' ∧ s'.heap.get? f = some (PySem.W.kla_obj "<lambda>" (X.env.qual ++ "<lambda>") params body scope (cloFrom X.env.cells scope.names []) pm c ctv),
    fun i kv _ => (∃ x, xs[i]? = some x) ∧ ∃ t, kv = .int (num i) t, fun i j => decide (num i < num j), rfl, walk_rel room.in1.hd _ l (Nat.ne_of_lt ll) xs, ⟨⟨_, Heap.get?_push_size _ rfl, rfl, rfl⟩, its0, rv0, pl0.isList.push _⟩, ?_, hne, ?_, ⟨I2, Heap.get?_push_of_some _ hf⟩, ?_⟩
  · intro b hb
    show b < s2.heap.objs.size
    rw [sz2]
    rcases List.mem_cons.mp hb with rfl | hb
    · exact Nat.lt_succ_self _
    · rw [List.mem_singleton.mp hb]; exact Nat.lt_succ_of_lt ll
  · refine { keep := fun s1 s3 hJ mv => ?_, keepV := fun _ _ _ _ z _ => z, turn := fun i v s1 o Q' E' hi hP hJ hst hSo hk => ?_, cmp := fun i j ki kj s1 Q' E' _ h1 h2 hq => ?_ }
    · have es : s3 = { s1 with heap := s3.heap, toks := s3.toks } := by
        obtain ⟨_, g, d, o, _⟩ := mv
        cases s1; cases s3
        simp only at g d o
        subst g d o
        rfl
      have ks : ∀ b o, b ∉ [s2.heap.objs.size, s.heap.objs.size] → s1.heap.get? b = some o → s3.heap.get? b = some o := mv.heap
      refine ⟨?_, ks _ _ (fun z => ?_) hJ.2⟩
      · rw [es]
        refine hJ.1.turnedL ks fun b hb => ?_
        rcases List.mem_cons.mp hb with rfl | hb
        · exact fpS
        · rw [List.mem_singleton.mp hb]; exact fpI
      · rcases List.mem_cons.mp z with z | z
        · rw [sz2] at z
          rw [z] at fl
          exact absurd fl (Nat.not_lt.mpr (Nat.le_succ _))
        · rw [List.mem_singleton.mp z] at fl
          exact absurd fl (Nat.lt_irrefl _)
    · obtain ⟨x, ex, rx⟩ := hP
      refine wpAny_mono (lam1_call (Q := fun v H' => v = .int (kf x) ∧ H' = H) hJ.1 L nin room hJ.2 hco (hbind v) rx hbody (ht x (List.mem_of_getElem? ex))) (fun kv s' ce => ?_) fun _ _ z => z.elim
      have ce2 := ce
      obtain ⟨_, _, _, _, un, _, _, _, rfl⟩ := ce2
      obtain ⟨v', H', J', rv', rfl, rfl⟩ := hJ.1.after ce
      have keepO : ∀ {b : Addr} {ob : Obj}, FpOk X pins H' b → s1.heap.get? b = some ob → s'.heap.get? b = some ob := fun h e => un.keep _ _ e h.1 (fp_stack I h) (by simp)
      obtain ⟨tk, etk⟩ : ∃ t, kv = .int (kf x) t := rv'
      refine hk kv s' ⟨J', un.keep _ _ hJ.2 hfn hfr (by simp)⟩ ⟨?_, ?_⟩ (keepO fpS hSo) ⟨⟨x, ex⟩, tk, by rw [numE ex]; exact etk⟩ fun _ _ z => z
      · obtain ⟨oi, e, r⟩ := hst.1
        exact ⟨oi, keepO fpI e, r⟩
      · obtain ⟨its, rv, pl, _⟩ := J'.list hS
        exact ⟨its, rv, pl.isList⟩
    · exact CmpOf.ints_lt (prog := X.prog) (w := X.w) (A := X.A.in1) (P := fun i kv => ∃ t, kv = .int (num i) t) num (fun i v h => h) i j ki kj s1 Q' E' h1.2 h2.2 hq
  · rintro v s' ⟨x, ex, rx⟩ hJ
    have best := argBest_lt num (xs.length - 1)
    refine ⟨x, H, hJ.1, rx, q x (List.mem_of_getElem? ex) fun y hy => ?_⟩
    obtain ⟨j, hj⟩ := List.getElem?_of_mem hy
    have jl := (List.getElem?_eq_some_iff.mp hj).1
    have := best.2 j (by omega)
    rw [numE ex, numE hj] at this
    exact this
end
end Rp

/-! The lambda is made: the maker's table may grow, all else stays; min(xs, key=lambda ..) as an expression. -/
namespace Rp
open PySem PySem.Spec PyProof.Rows L2
section
variable {X : Cx} {pins : List (Addr × Obj)} {σ : L2.St} {H : Hp} {s : Shared}
/-- all but the table stays -/
def Off (P : Addr) (H H' : Hp) : Prop := ∀ b o, b ≠ P → H b = some o → H' b = some o
theorem far_frames (I : Inv X pins σ H s) {f : Addr} (h : s.heap.objs.size ≤ f) : f ∉ frs X.stack := fp_stack I (I.fpOk h (I.hok.fresh h))
theorem lam_make3 {c P : Addr} {q : Str} {params : Arguments} {body : Expr} {scope : Scope} {pos : Pos} {E : Value → Shared → Prop} {Q : Value → Shared → Prop} (I : Inv X pins σ H s) (TB : LamX.TabB X.base X.mg c P) (hcode : X.env.code = .ref c) (hq : q = X.env.qual ++ "<lambda>") (hT : LamX.TabS H P q)
    (hdef : defaultsOf params X.env = ([], [])) (hfree : ∀ y ∈ scope.names, y.2 = .free → ∃ d, X.env.cells.lookup y.1 = some d)
    (h : ∀ (f d : Addr) (pm ctv : Value) (H1 : Hp) (s1 : Shared), Inv X pins σ H1 s1 → Off P H H1 → LamX.TabS H1 P q → s1.heap.get? f = some (PySem.W.kla_obj "<lambda>" q params body scope (cloFrom X.env.cells scope.names []) pm d ctv) → H1 f = none → f ∉ frs X.stack → H1 d = some (LamX.CodeO d q) → Q (.ref f) s1) :
    wpAny (model X.prog X.w) X.A (eval (.Lambda params body scope pos) X.env) Q E s := by
  subst hq
  obtain ⟨ps, tabP, tri, codes⟩ := hT
  have bltP : s.heap.BuiltinsAt X.mg P := TB.bm.keeps I.bk
  have objP : s.heap.get? P = some { cls := .none, data := .fields ps } := I.hok P _ tabP
  have hd := TB.code.keeps I.bk
  have gl := I.mod.glob.keeps I.bk
  refine PySem.W.kla_eval hdef ?_
  cases found : codeAmong pos ps.toList with
  | some cv =>
    obtain ⟨d, rfl, hd'⟩ := codes pos cv found
    refine PySem.W.kla_makeFunctionHit (mg := X.mg) (c := c) (P := P) (ps := ps) (closure_ok hfree) I.ok.glob gl hcode hd objP tri found bltP fun ctv h1 tk more big => ?_
    exact h _ d _ ctv H _ (I.kept fun b o e => Heap.get?_push_of_some _ (more b o e)) (fun _ _ _ e => e) ⟨ps, tabP, tri, codes⟩ (Heap.get?_push_size _ rfl) (I.hok.fresh big) (far_frames I big) hd'
  | none =>
    refine PySem.W.kla_makeFunction (mg := X.mg) (c := c) (P := P) (ps := ps) (closure_ok hfree) I.ok.glob gl hcode hd objP tri found TB.gP bltP fun d ctv h1 tk others big less rec tab1 => ?_
    obtain ⟨d2, oc, vs, t, ed, hoc, hdat, hnm⟩ := rec
    cases ed
    have newD : H d = none := I.hok.fresh big
    have PD : P ≠ d := ne_of_none tabP newD
    have bigF : s.heap.objs.size ≤ h1.objs.size := Nat.le_trans big (Nat.le_of_lt less)
    let fo := PySem.W.kla_obj "<lambda>" (X.env.qual ++ "<lambda>") params body scope (cloFrom X.env.cells scope.names []) ((X.mg "__name__").getD .none) d ctv
    let row : Array Value := #[rawInt pos.line, rawInt pos.col, .ref d]
    let H1 : Hp := upd (upd H P (.tbl (ps ++ row))) d (LamX.CodeO d (X.env.qual ++ "<lambda>"))
    have J : Inv X pins σ H1 { s with heap := h1.push fo, toks := tk } := LamX.inv_table (t' := tk) (more := row) I tabP (fun b o nb e => Heap.get?_push_of_some _ (others b o nb e)) (Heap.get?_push_of_some _ tab1) big ⟨oc, vs, t, Heap.get?_push_of_some _ hoc, hdat, hnm⟩
    have off : Off P H H1 := fun b o nb e => by
      show upd (upd H P _) d _ b = some o
      rw [upd_ne (ne_of_none e newD), upd_ne nb]; exact e
    have lst : (ps ++ row).toList = ps.toList ++ [rawInt pos.line, rawInt pos.col, .ref d] := by simp [row]
    have atD : H1 d = some (LamX.CodeO d (X.env.qual ++ "<lambda>")) := upd_same
    refine h h1.objs.size d _ ctv H1 _ J off ⟨ps ++ row, (upd_ne PD).trans upd_same, by rw [lst]; exact PySem.TriplesOk_snoc _ _ _ _ tri, fun p' cv z => ?_⟩ (Heap.get?_push_size _ rfl) ?_ (far_frames I bigF) atD
    · rw [lst] at z
      rcases LamX.among_app _ tri z with z | z
      · obtain ⟨d0, e1, e2⟩ := codes p' cv z
        exact ⟨d0, e1, off _ _ (fun w => by rw [w, tabP] at e2; exact LamX.codeO_ne _ (Option.some.inj e2).symm) e2⟩
      · exact ⟨d, z, atD⟩
    · show upd (upd H P _) d _ h1.objs.size = none
      rw [upd_ne (Nat.ne_of_gt less), upd_ne (Nat.ne_of_gt (Nat.lt_of_lt_of_le (Heap.lt_size objP) bigF))]
      exact I.hok.fresh bigF
/-- min(e, key=lambda p: body) -/
def tMinK (K : PySem.W.Frag) (P : Addr) (q : Str) (te tb : TE) : TE := fun σ H Q => te σ H fun x H1 => LamX.TabS H1 P q ∧ ∀ H2, Off P H1 H2 → LamX.TabS H2 P q →
  ∃ (l : Addr) (xs : List V) (kf : V → Int), x = .ref l ∧ SqL K H2 l xs ∧ 0 < xs.length ∧ (∀ y ∈ xs, tb (σ ++ [some y]) H2 fun v H' => v = .int (kf y) ∧ H' = H2) ∧ ∀ y ∈ xs, (∀ z ∈ xs, kf y ≤ kf z) → Q y H2
theorem pe_minLam {e body : Expr} {params : Arguments} {scope : Scope} {te tb : TE} {c P : Addr} {p q : Str} {k : Nat} {p1 lpos kpos pos : Pos} (hg : Gl X "min") (hm : X.mg "min" = none) (TB : LamX.TabB X.base X.mg c P) (hcode : X.env.code = .ref c) (hq : q = X.env.qual ++ "<lambda>") (L : Lam1 X.env.scope scope p) (nin : p ∉ X.N) (room : Room (k + 2) X.A)
    (hdef : defaultsOf params X.env = ([], [])) (hbind : ∀ (qn : Str) (cl : List (Str × Addr)) (pm cv ctv u : Value), bindArgs (PySem.W.kla_fn "<lambda>" qn params body scope cl pm cv ctv) ⟨[u], []⟩ = pure [(p, u)]) (ha : PE X e te)
    (hbody : ∀ (A : Around) (outer : List Env) (s : Shared) (H : Hp) (f d : Addr), Room k (A.deeper (LamX.lamEnv X scope s.heap.objs.size f d)) → PE (lamCx1 X A outer s H scope f d p) body tb)
    (hst : backTo pos (starEach [e] X.env) = (false, eval e X.env) :: backTo pos (starEach [] X.env) := by rfl) (hpl : (backTo pos (starEach [e] X.env)).any (·.1) = false := by rfl)
    (hall : (backToKw pos (keywordEach [⟨some "key", .Lambda params body scope lpos, kpos⟩] X.env)).all (·.1.isSome) = true := by rfl) (hnone : (backToKw pos (keywordEach [⟨some "key", .Lambda params body scope lpos, kpos⟩] X.env)).any (·.1.isNone) = false := by rfl)
    (hks : (backToKw pos (keywordEach [⟨some "key", .Lambda params body scope lpos, kpos⟩] X.env)).filterMap (·.1) = [Str.ofString "key"] := by rfl) (hpa : PA X [e] (tCons te tNil)) :
    PE X (.Call (.Name "min" p1) [e] [⟨some "key", .Lambda params body scope lpos, kpos⟩] pos) (tMinK X.K P q te tb) := by
  refine ⟨fun pins s σ H Q I h => ?_⟩
  refine wpAny_Call_Name_kw (ld_blt I hg hm (by rfl) ?_ (by decide) (by decide))
  refine PyProof.Rows.callWith_kw (thn (hpa.run pos pins s σ H (fun vs H1 => match vs with
    | x :: [] => LamX.TabS H1 P q ∧ ∀ H2, Off P H1 H2 → LamX.TabS H2 P q → ∃ (l : Addr) (xs : List V) (kf : V → Int), x = .ref l ∧ SqL X.K H2 l xs ∧ 0 < xs.length ∧ (∀ y ∈ xs, tb (σ ++ [some y]) H2 fun v H' => v = .int (kf y) ∧ H' = H2) ∧ ∀ y ∈ xs, (∀ z ∈ xs, kf y ≤ kf z) → Q y H2
    | _ => False) I h) fun us s1 z => ?_) hst hpl hall hnone
  obtain ⟨vs, H1, I1, rv, z⟩ := z
  match vs, rv, z with
  | x :: [], rv, ⟨hT, z⟩ =>
    cases rv with
    | @cons _ u _ _ rx rt =>
      cases rt
      have has : ∀ y ∈ scope.names, y.2 = .free → ∃ d, X.env.cells.lookup y.1 = some d := fun y hy e => I.ok.has _ ((L.free y hy e).imp id id)
      rw [hks]
      show wpAny _ _ (evalAll ((do let v ← eval (.Lambda params body scope lpos) X.env; standAt pos; pure v) :: [])) _ _ s1
      refine wpAny_evalAll_cons (wpAny_bind (lam_make3 I1 TB hcode hq hT hdef has fun f d pm ctv H2 s2 I2 off T2 hf hfn hfr hco => wpAny_bind (wpAny_standAt (wpAny_pure (wpAny_evalAll_nil ?_)))))
      obtain ⟨l, xs, kf, rfl, hS, hne, ht, fin⟩ := z H2 off T2
      obtain rfl : u = Value.ref l := rx
      subst hq
      exact min_run kf I2 L nin room hf hfn hfr hco (hbind _ _ _ _ _) (fun A outer s H r => hbody A outer s H f d r) hS hne ht fin
end
end Rp

/-! Defs that make lambdas: the table of code objects is known, and may grow. -/
namespace Rp
open PySem PySem.Spec PyProof.Rows L2
section
variable {K : PySem.W.Frag} {E : XK}
theorem TabS.off {H H' : Hp} {P b : Addr} {q q' : Str} (h : LamX.TabS H b q') (ne : b ≠ P) (hP : LamX.TabS H P q) (x : Off P H H') : LamX.TabS H' b q' := by
  obtain ⟨ps, e, tr, cs⟩ := h
  refine ⟨ps, x _ _ ne e, tr, fun pos cv hc => ?_⟩
  obtain ⟨c, ec, hco⟩ := cs pos cv hc
  refine ⟨c, ec, x _ _ (fun z => ?_) hco⟩
  obtain ⟨ps', e', _⟩ := hP
  rw [z, e'] at hco
  exact LamX.codeO_ne _ (Option.some.inj hco).symm
theorem TabS.some {H : Hp} {P : Addr} {q : Str} (h : LamX.TabS H P q) : (H P).isSome = true := by
  obtain ⟨ps, e, _⟩ := h
  rw [e]; rfl
theorem Rep.tabled {F : Frm K} {hd : Addr → Prop} {σ : L2.St} {H H2 : Hp} {δ : DS} {P : Addr} {q : Str} (r : Rep K F hd σ H δ) (hp : F.X.tb P q) (x : Off P H H2) (T2 : LamX.TabS H2 P q) : Kp F hd H hd H2 ∧ Rep K F hd σ H2 δ := by
  have tP := F.tbT P q hp
  have kp : ∀ b o, H b = some o → ¬ F.T b → H2 b = some o := fun b o e nt => x b o (fun z => nt (by rw [z]; exact tP)) e
  refine ⟨⟨kp, fun _ z => z⟩, r.kp (n := δ.n) kp fun b hb => ?_⟩
  have c := r.cat b hb
  by_cases e : b = P
  · subst e
    exact ⟨fun q' z => by rw [F.tq _ _ _ z hp]; exact T2, fun z => absurd hp (z q)⟩
  · refine ⟨fun q' z => TabS.off (c.1 q' z) e ((r.cat P tP).1 q hp) x, fun z => (c.2 z).ext ?_⟩
    cases eb : H b with
    | none => have := c.some; rw [eb] at this; cases this
    | some o => exact x b o e eb
def spP (K : PySem.W.Frag) (P : Addr) (q : Str) (al : List Bool) (s : WF) : Sp := fun vs H Q E => ∃ (V0 : Hp) (ds : List PyData), LamX.TabS H P q ∧ V0 P = none ∧ Same V0 H ∧ ArgsV K V0 (mask P H) al vs ds ∧
  s.wp ds 0 (fun d _ => ∀ v H', Off P H H' → LamX.TabS H' P q → Dz K (over V0 H H') v d → Q v H') (fun C d => ∀ (e : Addr) (v : V) (H' : Hp), H e = none → Off P H H' → LamX.TabS H' P q → H' e = some (.xd [("what", v)]) → Dz K (over V0 H H') v d → E (.ref C) (some e) H')
theorem spP_len {P : Addr} {q : Str} {al : List Bool} {s : WF} {vs : List V} {H : Hp} {Q : VK} {E : XK} (h : spP K P q al s vs H Q E) : vs.length = al.length := by
  obtain ⟨V0, ds, _, _, _, d, _⟩ := h
  exact (ArgsV.len d).1
theorem call_runP {P : Addr} {q : Str} {al : List Bool} {s : WF} {F : Frm K} {hd hd1 : Addr → Prop} {σ : L2.St} {H H1 : Hp} {δ1 : DS} {Q : VK} {vs : List V} {ds : List PyData} {X : Addr → PyData → Prop} {E' : XK} (hp : F.X.tb P q) (k1 : Kp F hd H hd1 H1) (r1 : Rep K F hd1 σ H1 δ1) (d1 : ArgsV K (vis F hd1 H1) (ntH F H1) al vs ds)
    (qq : s.wp ds 0 (fun d _ => Out K F hd σ H Q d δ1) X) (hx : ∀ C d, X C d → ∀ (e : Addr) (v : V) (H' : Hp), H1 e = none → Off P H1 H' → LamX.TabS H' P q → H' e = some (.xd [("what", v)]) → Dz K (over (vis F hd1 H1) H1 H') v d → E' (.ref C) (some e) H') : spP K P q al s vs H1 Q E' := by
  have tP := F.tbT P q hp
  have vP : vis F hd1 H1 P = none := by
    cases e : vis F hd1 H1 P with
    | none => rfl
    | some o => exact absurd tP (vis_not_t e)
  refine ⟨vis F hd1 H1, ds, (r1.cat P tP).1 q hp, vP, ((vis_rd r1.bs).trans rd_nt).trans nt_in, ArgsV.same (fun _ _ e => e) (fun b o e => ?_) d1, WF.mono (fun d _ q' v H' x T2 dv => ?_) hx qq⟩
  · obtain ⟨t, e⟩ := nt_some e
    rw [mask_ne (fun z => t (by rw [z]; exact tP))]; exact e
  · obtain ⟨k2, r2⟩ := r1.tabled hp x T2
    exact q' v hd1 H' (k1.trans k2) r2 (Dz.same (over_vis r1 k2.kp) dv)
def dCallP (P : Addr) (q : Str) (s : WF) (w : TDa) : TD := fun X δ Q => X.tb P q ∧ w X δ fun ds δ1 => s.wp ds 0 (fun d _ => Q d δ1) (fun _ _ => False)
def dCallPX (P : Addr) (q : Str) (s : WF) (w : TDa) : TD := fun X δ Q => X.tb P q ∧ w X δ fun ds δ1 => s.wp ds 0 (fun d _ => Q d δ1) X.ap
instance {P : Addr} {q : Str} {al : List Bool} {s : WF} {t : TA} {w : TDa} [p : PuA K E al t w] : PuE K E (tCall (spP K P q al s) [] E0 t) (dCallP P q s w) where
  mono h := fun ⟨e, z⟩ => ⟨e, p.mono (fun _ _ z => WF.mono (fun _ _ z => h _ _ z) (fun _ _ z => z) z) z⟩
  run hE r := fun ⟨hp, z⟩ => p.run hE r (p.mono (fun ds δ1 z vs hd1 H1 k1 r1 d1 => by show spP K P q al s (vs ++ []) H1 _ _; rw [List.append_nil]; exact call_runP hp k1 r1 d1 z fun _ _ z => z.elim) z)
instance (priority := 900) {P : Addr} {q : Str} {al : List Bool} {s : WF} {t : TA} {w : TDa} [p : PuA K E al t w] : PuE K E (tCall (spP K P q al s) [] E t) (dCallPX P q s w) where
  mono h := fun ⟨e, z⟩ => ⟨e, p.mono (fun _ _ z => WF.mono (fun _ _ z => h _ _ z) (fun _ _ z => z) z) z⟩
  run {F hd σ H δ Q} hE r := fun ⟨hp, z⟩ => p.run hE r (p.mono (fun ds δ1 z vs hd1 H1 k1 r1 d1 => by
    show spP K P q al s (vs ++ []) H1 _ _
    rw [List.append_nil]
    refine call_runP hp k1 r1 d1 z fun C d z e v H' ne x T2 he dv => ?_
    obtain ⟨k2, r2⟩ := r1.tabled hp x T2
    rw [← hE]
    exact F.ex C d e v H' z (r1.fresh ne).2.1 (fun b o h t => k2.kp b o (r1.bs.ev b o h t) t) (fun b q' y => (r2.cat b (F.tbT b q' y)).1 q' y) he (Dz.same (vis_over (hd := hd1)) (Dz.same (over_vis r1 k2.kp) dv))) z)
theorem pu_fnP {t : TS} {w : TDs} [p : PuS K E t w] {P : Addr} {q : Str} {al : List Bool} {s : WF} {vs : List V} {H : Hp} {Q : VK} {N : List Str} (h : spP K P q al s vs H Q E)
    (hb : ∀ g ds, s.pre g ds 0 → w ⟨s.err g, fun a q' => a = P ∧ q' = q⟩ { nx := fun _ => s.post g .none 0, rt := fun d _ => s.post g d 0 } ⟨initA al ds ++ List.replicate (N.length - al.length) .no, 0⟩) : t { nx := fun _ H' => Q .non H', rt := Q } (L2.start N vs) H := by
  obtain ⟨V0, ds, hT, vP, sV, d, g, h1, h2, h3⟩ := h
  have hl := (ArgsV.len d).1
  let F : Frm K := { H0 := H, V0 := V0, T := fun b => b = P, N := fun _ => False, E := E, X := ⟨s.err g, fun a q' => a = P ∧ q' = q⟩, sub := sV, nt := fun b z => by rw [z]; exact vP, ta := fun b z => by rw [z]; exact TabS.some hT, one := fun a b z => absurd ⟨z.1, rfl⟩ (z.2 q), tbT := fun b q' z => z.1, tq := fun b q1 q2 z y => z.2.trans y.2.symm, ex := fun C d e v H' hx he hs ht hw dv => h3 C d hx e v H' he (fun b o nb e => hs b o e nb) (ht P q ⟨rfl, rfl⟩) hw dv }
  have nt : ntH F H = mask P H := by
    funext b
    unfold ntH mask
    by_cases c : b = P
    · rw [if_pos c, if_pos c]
    · rw [if_neg c]; exact (if_neg c).symm
  have r := rep_start (F := F) (pre := []) (pa := []) (k := N.length - al.length) (n := 0) rfl rfl (fun i a e => by simp at e) (by rw [nt]; exact d) (fun _ z => z) (fun b z => ⟨fun q' y => by rw [y.1, y.2]; exact hT, fun y => absurd ⟨z, rfl⟩ (y q)⟩)
  unfold L2.start
  rw [hl]
  refine p.run (F := F) rfl r ⟨fun hd' σ' H' δ' g' r' z => ?_, fun v d' hd' σ' H' δ' g' r' dv z => ?_, fun _ _ _ _ _ _ z => z, fun _ _ _ _ _ _ z => z⟩ (hb g ds h1)
  · exact h2 .none 0 z .non H' (fun b o nb e => r'.bs.ev b o e nb) ((r'.cat P rfl).1 q ⟨rfl, rfl⟩) .non
  · exact h2 d' 0 z v H' (fun b o nb e => r'.bs.ev b o e nb) ((r'.cat P rfl).1 q ⟨rfl, rfl⟩) (Dz.same vis_over dv)
/-- a def with the tape, and the table -/
def spTP (K : PySem.W.Frag) (P : Addr) (q : Str) (al : List Bool) (s : WF) : Sp := fun vs H Q _ => ∃ (t : Addr) (ws : List V) (V0 : Hp) (ds : List PyData) (n : Nat), vs = .ref t :: ws ∧ TapeAt H t n ∧ LamX.TabS H P q ∧ V0 P = none ∧ Same V0 H ∧ V0 t = none ∧ ArgsV K V0 (mask P (mask t H)) al ws ds ∧
  s.wp ds n (fun d n' => ∀ v H', (∀ b o, b ≠ t → b ≠ P → H b = some o → H' b = some o) → TapeAt H' t n' → LamX.TabS H' P q → Dz K (over V0 H H') v d → Q v H') (fun _ _ => False)
theorem spTP_len {P : Addr} {q : Str} {al : List Bool} {s : WF} {vs : List V} {H : Hp} {Q : VK} {E : XK} (h : spTP K P q al s vs H Q E) : vs.length = al.length + 1 := by
  obtain ⟨t, ws, V0, ds, n, rfl, _, _, _, _, _, d, _⟩ := h
  rw [List.length_cons, (ArgsV.len d).1]
theorem tape_tab {H : Hp} {t P : Addr} {n : Nat} {q : Str} (h : TapeAt H t n) (g : LamX.TabS H P q) : t ≠ P := fun z => by
  obtain ⟨a, b, c, e, _⟩ := h
  obtain ⟨ps, e', _⟩ := g
  rw [z, e'] at e; cases e
theorem pu_fnTP {t : TS} {w : TDs} [p : PuS K E t w] {P : Addr} {q : Str} {al : List Bool} {s : WF} {vs : List V} {H : Hp} {Q : VK} {N : List Str} (h : spTP K P q al s vs H Q E)
    (hb : ∀ g ds n, s.pre g ds n → w ⟨fun _ _ => False, fun a q' => a = P ∧ q' = q⟩ { nx := fun δ => s.post g .none δ.n, rt := fun d δ => s.post g d δ.n } ⟨.tape :: (initA al ds ++ List.replicate (N.length - (al.length + 1)) .no), n⟩) : t { nx := fun _ H' => Q .non H', rt := Q } (L2.start N vs) H := by
  obtain ⟨tp, ws, V0, ds, n, rfl, ht, hT, vP, sV, vt, d, g, h1, h2, h3⟩ := h
  have hl := (ArgsV.len d).1
  have tP := tape_tab ht hT
  have ntF : ∀ b, b = tp ∨ b = P → V0 b = none := fun b z => by rcases z with z | z <;> rw [z] <;> assumption
  have taF : ∀ b, b = tp ∨ b = P → (H b).isSome = true := fun b z => by
    rcases z with z | z
    · rw [z]; exact tape_some ht
    · rw [z]; exact TabS.some hT
  have oneF : ∀ a b, ((a = tp ∨ a = P) ∧ ∀ q', ¬ (a = P ∧ q' = q)) → ((b = tp ∨ b = P) ∧ ∀ q', ¬ (b = P ∧ q' = q)) → a = b := fun a b z y => by
    rcases z.1 with z1 | z1
    · rcases y.1 with y1 | y1
      · rw [z1, y1]
      · exact absurd ⟨y1, rfl⟩ (y.2 q)
    · exact absurd ⟨z1, rfl⟩ (z.2 q)
  let F : Frm K := { H0 := H, V0 := V0, T := fun b => b = tp ∨ b = P, N := fun _ => False, E := E, X := ⟨fun _ _ => False, fun a q' => a = P ∧ q' = q⟩, sub := sV, nt := ntF, ta := taF, one := oneF, tbT := fun b q' z => .inr z.1, tq := fun b q1 q2 z y => z.2.trans y.2.symm, ex := fun _ _ _ _ _ z => z.elim }
  have nt : ntH F H = mask P (mask tp H) := by
    funext b
    unfold ntH mask
    by_cases c : b = P
    · rw [if_pos c]; exact if_pos (.inr c)
    · rw [if_neg c]
      by_cases c2 : b = tp
      · rw [if_pos c2]; exact if_pos (.inl c2)
      · rw [if_neg c2]; exact if_neg (fun z => z.elim c2 c)
  have cat : ∀ b, F.T b → CAt F H b n := fun b z => ⟨fun q' y => by rw [y.1, y.2]; exact hT, fun y => by
    rcases z with z | z
    · rw [z]; exact ht
    · exact absurd ⟨z, rfl⟩ (y q)⟩
  have tpT : F.Tp tp := ⟨.inl rfl, fun q' z => tP z.1⟩
  have r := rep_start (F := F) (pre := [.ref tp]) (pa := [.tape]) (k := N.length - (al.length + 1)) (n := n) rfl rfl (fun i a e => by
    rcases i with _ | i
    · simp at e; exact ⟨.ref tp, rfl, e.symm, tp, rfl, tpT⟩
    · simp at e) (by rw [nt]; exact d) (fun _ z => z) cat
  unfold L2.start
  rw [List.length_cons, hl]
  refine p.run (F := F) rfl r ⟨fun hd' σ' H' δ' g' r' z => ?_, fun v d' hd' σ' H' δ' g' r' dv z => ?_, fun _ _ _ _ _ _ z => z, fun _ _ _ _ _ _ z => z⟩ (hb g ds n h1)
  · exact h2 .none δ'.n z .non H' (fun b o n1 n2 e => r'.bs.ev b o e (fun z => z.elim n1 n2)) (r'.tape tp tpT) ((r'.cat P (.inr rfl)).1 q ⟨rfl, rfl⟩) .non
  · exact h2 d' δ'.n z v H' (fun b o n1 n2 e => r'.bs.ev b o e (fun z => z.elim n1 n2)) (r'.tape tp tpT) ((r'.cat P (.inr rfl)).1 q ⟨rfl, rfl⟩) (Dz.same vis_over dv)
/-! ### min(xs, key=lambda x: ys.index(x)) -/
def lkAt (δ : DS) (i : Nat) (ys : List Str) : Prop := ∃ d, (δ.v[i]? = some (.dat d) ∨ δ.v[i]? = some (.rd d)) ∧ Items d (ys.map .str)
def dMinIx (P : Addr) (q : Str) (i n : Nat) (w : TRd) : TD := fun X δ Q => X.tb P q ∧ w X δ fun _ x δ1 => n = δ1.v.length ∧ i < n ∧ ∃ zs ys : List Str, x = .list (zs.map .str) ∧ zs ≠ [] ∧ lkAt δ1 i ys ∧ (∀ z ∈ zs, z ∈ ys) ∧ ∀ z ∈ zs, (∀ y ∈ zs, ixO ys z ≤ ixO ys y) → Q (.str z) δ1
def keyOf (ys : List Str) : V → Int
  | .str z => (ixO ys z : Nat)
  | _ => 0
theorem idx_run {H : Hp} {σ : L2.St} {i n : Nat} {lv : V} {d : PyData} {ys : List Str} {z : Str} (h1 : σ[i]? = some (some lv)) (h2 : σ[n]? = some (some (.str z))) (dz : Dz K H lv d) (it : Items d (ys.map .str)) (zm : z ∈ ys) : tIdx K (tVar i) (tCons (tVar n) tNil) σ H fun v H' => v = .int (ixO ys z : Nat) ∧ H' = H := by
  obtain ⟨g1, g2⟩ := ixO_at zm
  refine ⟨lv, h1, ?_⟩
  rcases it with rfl | rfl
  · cases dz with
    | @lst a vs _ hs ha =>
      have ev := strs_of ha
      subst ev
      exact .inl ⟨.inl ⟨rfl, _, hs.sq⟩, .str z, h2, a, ys, z, _, rfl, rfl, hs.sq, g1, g2, rfl, rfl⟩
  · cases dz with
    | @tup a vs _ hs nd ha =>
      have ev := strs_of ha
      subst ev
      exact .inr ⟨⟨a, rfl, nd⟩, .str z, h2, a, ys, z, _, rfl, rfl, hs, g1, g2, rfl, rfl⟩
instance {P : Addr} {q : Str} {i n : Nat} {t : TE} {w : TRd} [p : PuR K E t w] : PuE K E (tMinK K P q t (tIdx K (tVar i) (tCons (tVar n) tNil))) (dMinIx P q i n w) where
  mono h := fun ⟨e, z⟩ => ⟨e, p.mono (fun _ _ _ ⟨a, b, zs, ys, c, d, f, g, z⟩ => ⟨a, b, zs, ys, c, d, f, g, fun y hy hm => h _ _ (z y hy hm)⟩) z⟩
  run {F hd σ H δ Q} hE r := fun ⟨hp, z⟩ => by
    refine un1 (t := t) hE r z fun l x δ1 v hd1 H1 k1 r1 d1 ⟨en, il, zs, ys, ex, ne, lk, sub, fin⟩ => ?_
    refine ⟨(r1.cat P (F.tbT P q hp)).1 q hp, fun H2 off T2 => ?_⟩
    obtain ⟨k2, r2⟩ := r1.tabled hp off T2
    subst ex
    obtain ⟨a, vs, rfl, hs, ha⟩ := (d1.kp r1.bs k2).seq r2.bs (.inl rfl)
    have ev := strs_of ha
    subst ev
    have hs' : SqL K H2 a (zs.map V.str) := by
      rcases hs with hs | hs
      · exact nt_in.seq hs.2
      · cases hs.1
    have nl : n = σ.length := by rw [r2.len]; exact en
    obtain ⟨d, hv, it⟩ := lk
    obtain ⟨lv, e1, dz⟩ : ∃ lv, σ[i]? = some (some lv) ∧ Dz K H2 lv d := by
      rcases hv with hv | hv
      · obtain ⟨lv, e1, dz⟩ := r2.vars i _ hv
        exact ⟨lv, e1, Dz.same (vis_in r2) dz⟩
      · obtain ⟨lv, e1, dz⟩ := r2.vars i _ hv
        exact ⟨lv, e1, Dz.same (rd_nt.trans nt_in) dz⟩
    refine ⟨a, zs.map V.str, keyOf ys, rfl, hs', by rw [List.length_map]; exact List.length_pos_iff.mpr ne, fun y hy => ?_, fun y hy hm => ?_⟩
    · obtain ⟨z, hz, rfl⟩ := List.mem_map.mp hy
      exact idx_run (by rw [List.getElem?_append_left (by rw [← nl]; exact il)]; exact e1) (by rw [nl, List.getElem?_append_right (Nat.le_refl _), Nat.sub_self]; rfl) dz it (sub z hz)
    · obtain ⟨z, hz, rfl⟩ := List.mem_map.mp hy
      refine fin z hz (fun y hy => ?_) _ _ _ (k1.trans k2) r2 (.str z)
      have := hm (.str y) (List.mem_map.mpr ⟨y, hy, rfl⟩)
      simp only [keyOf] at this
      omega
end
end Rp

/-! What pick and passed_by promise. -/
namespace Rp
open PySem PySem.Spec PyProof.Rows L2
def qPB : Str := (Str.ofString "passed_by" ++ Str.ofString ".<locals>.") ++ Str.ofString "<lambda>"
def lam1B (sc scope : Scope) (p : Str) : Bool :=
  decide (scope.kind = .function) && !scope.isCoroutine && !scope.isGenerator && decide (scope.names.lookup p = some .local) && scope.names.all fun y => !decide (y.2 = .cell) && (!decide (y.2 = .local) || decide (y.1 = p)) && (!decide (y.2 = .free) || decide (sc.names.lookup y.1 = some .cell) || decide (sc.names.lookup y.1 = some .free))
theorem lam1_by {sc scope : Scope} {p : Str} (h : lam1B sc scope p = true) : Lam1 sc scope p := by
  unfold lam1B at h
  simp only [Bool.and_eq_true, Bool.or_eq_true, Bool.not_eq_true', decide_eq_true_eq, decide_eq_false_iff_not, List.all_eq_true] at h
  obtain ⟨⟨⟨⟨h1, h2⟩, h3⟩, h4⟩, h5⟩ := h
  refine ⟨h1, h2, h3, fun y hy => (h5 y hy).1.1, fun y hy e => ?_, h4, fun y hy e => ?_⟩
  · rcases (h5 y hy).1.2 with z | z
    · exact absurd e z
    · exact z
  · rcases (h5 y hy).2 with (z | z) | z
    · exact absurd e z
    · exact .inl z
    · exact .inr z
theorem nin_by {p : Str} (N : List Str) (h : decide (p ∈ N) = false) : p ∉ N := of_decide_eq_false h
section
variable {P : Program} {w : World} {K : PySem.W.Frag} {mg : Str → Option Value} {base : Heap}
/-- a def by its body, its code known -/
theorem okC {x qual : Str} {st : Stmt} {f : Addr} {fd : FuncData} {N ps : List Str} {lev : Nat} {promise : Sp} (F : Fun K x qual st f fd) (S : FnScope N ps (defScope st)) (long : ∀ vals H Q E, promise vals H Q E → vals.length = ps.length)
    (walk : ∀ (cdv : Value) (A : Around) (outer : List Env) (s : Shared) (H : Hp) (vals : List V) (Q : VK) (E : XK), fd.code = cdv → Room lev (A.deeper (envOfC qual (defScope st) s.heap.objs.size f cdv)) → promise vals H Q E →
      ∃ t, PSs (cxOf CX0 P w K mg base N qual (defScope st) f cdv A outer s H E).nox (defBody st) t ∧ t { nx := fun _ H' => Q .non H', rt := Q } (start N vals) H) : FnOk P w K mg base CX0 (lev + 1) f fd ps promise := by
  obtain ⟨oc, od, kV, doc, pm, an, cdv, ct, osl, rfl, lk, hcd⟩ := F.ex
  refine fn_of lk hcd S long fun A outer s H vals Q E room asked => ?_
  obtain ⟨t, body, reading⟩ := walk cdv A outer s H vals Q E rfl room asked
  exact ⟨t, body.nox, reading⟩
end
def wf_others : WF := { G := List Str × Str, pre := fun g ds _ => ∃ a, ds = [a, .str g.2] ∧ Items a (g.1.map .str) ∧ g.1.length ≤ 1000, post := fun g d _ => d = .list ((g.1.filter fun z => !decide (z = g.2)).map .str) }
/-- pick by pick: who goes, who else was ripe -/
def psN (G : Gr) (lk : List Str) (i : Nat) : List (Str × List Str) := (pickN G lk i).zipIdx.map fun p => (p.1, (ripeG G ((pickN G lk i).take p.2)).filter fun z => !decide (z = p.1))
def passedG (G : Gr) (lk : List Str) : List (Str × List Str) := psN G lk lk.length
abbrev psD (p : Str × List Str) : PyData := .tuple [.str p.1, .list (p.2.map .str)]
def wf_passed : WF := { G := Gr × List Str, pre := fun g ds _ => ∃ a b, ds = [a, b] ∧ flat a = grD g.1 ∧ Items b (g.2.map .str) ∧ okGr g.1 ∧ (∀ p ∈ g.1, p.1 ∈ g.2) ∧ g.2.length ≤ 100, post := fun g d _ => d = .list ((passedG g.1 g.2).map psD) }
def wf_pickP : WF := { G := Gr × List Str, pre := fun g ds _ => ∃ a b, ds = [a, b] ∧ flat a = grD g.1 ∧ Items b (g.2.map .str) ∧ okGr g.1 ∧ (∀ p ∈ g.1, p.1 ∈ g.2) ∧ g.2.length ≤ 100, post := fun g d _ => d = .list ((pickG g.1 g.2).map .str) }
theorem pick_next {G : Gr} {lk : List Str} {i : Nat} {z : Str} (h : z ∈ ripeG G (pickN G lk i)) (zl : z ∈ lk) (hm : ∀ y ∈ ripeG G (pickN G lk i), ixO lk z ≤ ixO lk y) : pickN G lk (i + 1) = pickN G lk i ++ [z] := by
  show pickStep G lk (pickN G lk i) = _
  unfold pickStep
  rw [first_of zl (decide_eq_true h) fun y hy hp => ?_]
  have hp := of_decide_eq_true hp
  by_cases c : y = z
  · exact .inl c
  · refine .inr (Nat.lt_of_le_of_ne (hm y hp) fun e => c (ixO_inj hy zl e.symm))
theorem pick_stop {G : Gr} {lk : List Str} {i : Nat} (h : ripeG G (pickN G lk i) = []) : ∀ k, pickN G lk (i + k) = pickN G lk i
  | 0 => rfl
  | k + 1 => by
    have ih := pick_stop h k
    show pickStep G lk (pickN G lk (i + k)) = _
    rw [ih]
    unfold pickStep
    rw [h]
    simp
theorem pick_le {G : Gr} {lk : List Str} {i : Nat} (l : (pickN G lk i).length = i) : i ≤ lk.length := by
  obtain ⟨_, nd, sub, _⟩ := pickN_ok G lk i
  have := List.Nodup.length_le_of_subset nd sub
  omega
theorem pick_done {G : Gr} {lk : List Str} {i : Nat} (l : (pickN G lk i).length = i) (h : ripeG G (pickN G lk i) = []) : pickN G lk lk.length = pickN G lk i := by
  have le := pick_le l
  have := pick_stop h (lk.length - i)
  rw [show i + (lk.length - i) = lk.length by omega] at this
  exact this
theorem ps_succ {G : Gr} {lk : List Str} {i : Nat} {z : Str} (l : (pickN G lk i).length = i) (e : pickN G lk (i + 1) = pickN G lk i ++ [z]) : psN G lk (i + 1) = psN G lk i ++ [(z, (ripeG G (pickN G lk i)).filter fun y => !decide (y = z))] := by
  unfold psN
  rw [e, List.zipIdx_append, List.map_append]
  congr 1
  · refine List.map_congr_left fun p hp => ?_
    have := (List.getElem?_eq_some_iff.mp (List.mem_zipIdx_iff_getElem?.mp hp)).1
    rw [List.take_append_of_le_length (by omega)]
  · simp [l]
theorem ps_done {G : Gr} {lk : List Str} {i : Nat} (l : (pickN G lk i).length = i) (h : ripeG G (pickN G lk i) = []) : passedG G lk = psN G lk i := by
  unfold passedG psN
  rw [pick_done l h]
theorem ps_fst (G : Gr) (lk : List Str) : (passedG G lk).map (·.1) = pickG G lk := by
  unfold passedG psN pickG
  rw [List.map_map]
  show List.map (fun p : Str × Nat => p.1) _ = _
  exact List.zipIdx_map_fst _ _
end Rp

/-! The end of a law whose program makes lambdas in one def. -/
namespace Rp
open PySem PySem.Spec PyProof.Rows L2
theorem tabIn_of {K : PySem.W.Frag} {x : Str} {f c P : Addr} {oc e : Value} {od dd : Option Addr} {fd : FuncData} {sl sl' : Array (Option Value)} {vs : Array Value} (a : PySem.W.nsIn K mainGlobals x = some (some (.ref f))) (l : K.lookup f = some ⟨oc, od, .func fd, sl⟩) (hc : fd.code = .ref c) (lc : K.lookup c = some ⟨e, dd, .fields vs, sl'⟩) (vp : vs[11]? = some (.ref P)) : PySem.W.tabIn K x = some (c, P) := by
  unfold PySem.W.tabIn
  simp only [a, l, hc, lc, vp]
end Rp

/-! Two neighbours of a liking exchanged. -/
namespace Rp
open PySem PySem.Spec PyProof.Rows L2
structure Flip (lk lk' : List Str) (a b : Str) (n : Nat) : Prop where
  la : ixO lk a = n
  lb : ixO lk b = n + 1
  fa : ixO lk' a = n + 1
  fb : ixO lk' b = n
  ne : a ≠ b
  am : a ∈ lk
  bm : b ∈ lk
  rest : ∀ z, z ≠ a → z ≠ b → ixO lk' z = ixO lk z
  mem : ∀ z, z ∈ lk' ↔ z ∈ lk
  len : lk'.length = lk.length
section
variable {G : Gr} {lk lk' : List Str} {a b : Str} {n : Nat}
theorem Flip.off (F : Flip lk lk' a b n) {z : Str} (zm : z ∈ lk) (za : z ≠ a) (zb : z ≠ b) : ixO lk z ≠ n ∧ ixO lk z ≠ n + 1 :=
  ⟨fun e => za (ixO_inj zm F.am (by rw [e, F.la])), fun e => zb (ixO_inj zm F.bm (by rw [e, F.lb]))⟩
theorem Flip.lt (F : Flip lk lk' a b n) {f u : Str} (fm : f ∈ lk) (um : u ∈ lk) (h : ixO lk f < ixO lk u) (no : ¬ (f = a ∧ u = b)) : ixO lk' f < ixO lk' u := by
  have ne := F.ne
  by_cases fa : f = a
  · subst fa
    have ub : u ≠ b := fun e => no ⟨rfl, e⟩
    have uf : u ≠ f := fun e => by rw [e] at h; omega
    have := F.off um uf ub
    rw [F.fa, F.rest u uf ub]
    rw [F.la] at h
    omega
  · by_cases fb : f = b
    · subst fb
      have uf : u ≠ f := fun e => by rw [e] at h; omega
      have ua : u ≠ a := fun e => by subst e; rw [F.la, F.lb] at h; omega
      rw [F.fb, F.rest u ua uf]
      rw [F.lb] at h
      omega
    · rw [F.rest f fa fb]
      have := F.off fm fa fb
      by_cases ua : u = a
      · subst ua; rw [F.fa]; rw [F.la] at h; omega
      · by_cases ub : u = b
        · subst ub; rw [F.fb]; rw [F.lb] at h; omega
        · rw [F.rest u ua ub]; exact h
/-- who goes is the best liked of those that are ripe -/
theorem best_at (hG : ∀ p ∈ G, p.1 ∈ lk) {k : Nat} {f : Str} (ef : (pickG G lk)[k]? = some f) : ∀ z ∈ ripeG G ((pickG G lk).take k), z = f ∨ ixO lk f < ixO lk z := by
  intro z hz
  have kl := (List.getElem?_eq_some_iff.mp ef).1
  have le : (pickG G lk).length ≤ lk.length := pickN_len G lk lk.length
  have e1 : (pickG G lk).take k = pickN G lk k := pickN_take _ _ (by omega)
  have e2 : (pickG G lk).take (k + 1) = pickN G lk (k + 1) := pickN_take _ _ (by omega)
  rw [e1] at hz
  rw [take_at ef, e1, pickN, pickStep] at e2
  have e3 := (List.append_cancel_left e2).symm
  have zm : z ∈ lk := by
    obtain ⟨p, hp, e, _⟩ := ripe_iff.mp hz
    rw [← e]; exact hG p hp
  exact of_first e3 z zm (by simpa using hz)
end
/-! ### what the dict of the uppers tells -/
end Rp

/-! Those above a fruit; sorted of a dict. -/
namespace Rp
open PySem PySem.Spec PyProof.Rows L2
def rSortM : List V → Hp → VK → Prop := fun xs H Q => ∃ (a : Addr) (kvs : List (Key × V)) (ks : List Str), xs = [.ref a] ∧ Rd H a (.dK kvs) ∧ kvs.map (·.1) = ks.map Sum.inr ∧ ks.length < 64 ∧
    ∀ ys p, ys.Perm ks → sortedS ys = true → H p = none → Q (.ref p) (upd H p (.lst (ys.map V.str)))
section
variable {K : PySem.W.Frag} {E : XK}
def dSortM (wm : TDm) : TD := fun X δ Q => wm X δ fun m δ1 => m.length < 64 ∧ ∀ ys : List Str, ys.Perm (m.map (·.1)) → sortedS ys = true → Q (.list (ys.map .str)) δ1
instance {td : TE} {wm : TDm} [pm : PuM K E td wm] : PuE K E (tCB rSortM (tCons td tNil)) (dSortM wm) where
  mono h := pm.mono fun _ _ ⟨a, q⟩ => ⟨a, fun ys h1 h2 => h _ _ (q ys h1 h2)⟩
  run {F hd σ H δ Q} hE r q := pm.run hE r (pm.mono (fun m δ1 q v hd1 H1 k1 r1 d1 => by
    obtain ⟨a, kvs, rfl, h1, h2⟩ := d1
    obtain ⟨lm, q⟩ := q
    show rSortM [.ref a] H1 _
    refine ⟨a, kvs, m.map (·.1), rfl, .inl (vis_in r1 _ _ h1), ?_, by rw [List.length_map]; exact lm, fun ys p h1 h2 np => newLst r1 np (dz_strs ys) ((q ys h1 h2).kp k1)⟩
    rw [h2.1]
    unfold mpK
    rw [List.map_map, List.map_map]; rfl) q)
end
section
variable {K : PySem.W.Frag} {E : XK}
theorem zpF_run {F : Frm K} {hd hd1 hd2 : Addr → Prop} {σ : L2.St} {H H1 H2 : Hp} {δ2 : DS} {R : It → Hp → Prop} {v u : V} {ds es : List PyData} (k1 : Kp F hd H hd1 H1) (B1 : Bs F hd1 H1) (k2 : Kp F hd1 H1 hd2 H2) (r2 : Rep K F hd2 σ H2 δ2) (d1 : Dz K (vis F hd1 H1) v (.list ds)) (d2 : Dz K (vis F hd2 H2) u (.list es)) (q3 : OutI K F hd σ H (fun hd H => rdH F hd H) R .SV (zpD ds es) δ2) :
    ∃ a b xs ys, [v, u] = [.ref a, .ref b] ∧ ((SqL K H2 a xs ∧ SqL K H2 b ys ∧ R (Itz K a b) H2) ∨ (SqT K H2 a xs ∧ SqT K H2 b ys ∧ R (RZ.ItzT K a b) H2)) := by
  have d1' : Dz K (vis F hd2 H2) v (.list ds) := Dz.same (vis_go B1 k2.go) d1
  obtain ⟨a, vs, ds', rfl, hs, ha⟩ := Dz.shell (vis_rd r2.bs) d1' rfl
  obtain ⟨b, us, es', rfl, hs2, hb⟩ := Dz.shell (vis_rd r2.bs) d2 rfl
  rcases hs with hs | hs
  · rcases hs2 with hs2 | hs2
    · cases hs.1
      cases hs2.1
      refine ⟨a, b, vs, us, rfl, .inl ⟨(rd_nt.trans nt_in).seq hs.2.sq, (rd_nt.trans nt_in).seq hs2.2.sq, q3 _ _ _ (k1.trans k2) r2 ?_⟩⟩
      rw [show (zpD ds es).length = min vs.length us.length by simp [zpD, DzAll.len ha, DzAll.len hb]]
      exact (walk_zip rfl).mono (fun H' s => ⟨s.1.seq hs.2.sq, s.1.seq hs2.2.sq⟩) (fun i Ha x Hb _ g y => zp_el (l := .V) (m := .V) r2.bs ha hb g.2 y)
    · cases hs2.1
  · cases hs.1
/-- zip of a list and of a known list, in a for -/
def iZpF (i : Nat) (wb : TD) : TDi := fun X δ Q => match δ.v[i]? with
  | some (.dat d) => wb X δ fun y δ2 => ∃ ds es, d = .list ds ∧ y = .list es ∧ Q .SV (zpD ds es) δ2
  | some (.own ds) => wb X ⟨δ.v.set i (.dat (.list ds)), δ.n⟩ fun y δ2 => ∃ es, y = .list es ∧ Q .SV (zpD ds es) δ2
  | _ => False
instance {i : Nat} {tb : TE} {wb : TD} [pb : PuE K E tb wb] : PuF K E (RZ.iZipA K (tCons (tVar i) (tCons tb tNil))) (iZpF i wb) where
  mono {X δ Q Q'} h := by
    unfold iZpF
    split
    · exact pb.mono fun _ _ ⟨ds, es, e, f, q⟩ => ⟨ds, es, e, f, h _ _ _ q⟩
    · exact pb.mono fun _ _ ⟨es, f, q⟩ => ⟨es, f, h _ _ _ q⟩
    · exact fun q => q
  run {F hd σ H δ R} hE r q := by
    unfold iZpF at q
    split at q
    · rename_i d e
      obtain ⟨v, h1, h2⟩ := r.vars i _ e
      refine ⟨v, h1, pb.run hE r (pb.mono (fun y δ2 q u hd2 H2 k2 r2 d2 => ?_) q)⟩
      obtain ⟨ds, es, rfl, rfl, q⟩ := q
      exact zpF_run .refl r.bs k2 r2 h2 d2 q
    · rename_i ds e
      obtain ⟨a, hd', h1, k, r', dp⟩ := r.freeze e
      refine ⟨_, h1, pb.run hE r' (pb.mono (fun y δ2 q u hd2 H2 k2 r2 d2 => ?_) q)⟩
      obtain ⟨es, rfl, q⟩ := q
      exact zpF_run k r'.bs k2 r2 dp d2 q
    · exact q.elim
end
def upAt (G : Gr) (row : List Str) (z : Str) : Option Str := upOf G row (ixO row z)
def chN (G : Gr) (row : List Str) : Nat → Option Str → List Str
  | 0, _ => []
  | _ + 1, none => []
  | n + 1, some z => z :: chN G row n (upAt G row z)
def aboveG (G : Gr) (row : List Str) (f : Str) : List Str := chN G row row.length (upAt G row f)
end Rp

/-! Those passed over at a pick go later in turn: the first is the upper, all are above. -/
namespace Rp
open PySem PySem.Spec PyProof.Rows L2
variable {G : Gr} {row : List Str}
end Rp

/-! Defs that take the tape, a value, a dict and a value. -/
namespace Rp
open PySem PySem.Spec PyProof.Rows L2
structure WTM where
  G : Type
  pre : G → Mp → PyData → PyData → Nat → Prop
  post : G → PyData → Nat → Prop
section
variable {K : PySem.W.Frag} {E : XK}
def spTM (K : PySem.W.Frag) (s : WTM) : Sp := fun vs H Q _ => ∃ (t : Addr) (x : V) (a : Addr) (z : V) (kvs : List (Key × V)) (V0 : Hp) (m : Mp) (d1 d2 : PyData) (n : Nat) (g : s.G), vs = [.ref t, x, .ref a, z] ∧ TapeAt H t n ∧ Same V0 H ∧ V0 t = none ∧ V0 a = some (.dK kvs) ∧ MapAt K V0 kvs (mpK m) ∧ Dz K V0 x d1 ∧ Dz K V0 z d2 ∧ s.pre g m d1 d2 n ∧
  ∀ d n', s.post g d n' → ∀ v H', Ext t H H' → TapeAt H' t n' → Dz K (over V0 H H') v d → Q v H'
def dCallTM (i : Nat) (s : WTM) (w1 : TD) (wm : TDm) (w2 : TD) : TD := fun X δ Q => δ.v[i]? = some .tape ∧ w1 X δ fun x δ1 => wm X δ1 fun m δ2 => w2 X δ2 fun y δ3 => ∃ g, s.pre g m x y δ3.n ∧ ∀ d n', s.post g d n' → Q d ⟨δ3.v, n'⟩
instance {i : Nat} {s : WTM} {t1 td t2 : TE} {w1 w2 : TD} {wm : TDm} {E' : XK} [p1 : PuE K E t1 w1] [pm : PuM K E td wm] [p2 : PuE K E t2 w2] : PuE K E (tCall (spTM K s) [] E' (tCons (tVar i) (tCons t1 (tCons td (tCons t2 tNil))))) (dCallTM i s w1 wm w2) where
  mono h := fun ⟨e, q⟩ => ⟨e, p1.mono (fun _ _ => pm.mono fun _ _ => p2.mono fun _ _ ⟨g, a, q⟩ => ⟨g, a, fun d n' z => h _ _ (q d n' z)⟩) q⟩
  run {F hd σ H δ Q} hE r := fun ⟨e, q⟩ => by
    obtain ⟨a, h1, h2⟩ := r.vars i _ e
    refine ⟨_, h1, p1.run hE r (p1.mono (fun x δ1 q v1 hd1 H1 k1 r1 d1 => ?_) q)⟩
    refine pm.run hE r1 (pm.mono (fun m δ2 q vm hdm Hm km rm dm => ?_) q)
    refine p2.run hE rm (p2.mono (fun y δ3 q v2 hd2 H2 k2 r2 d2 => ?_) q)
    obtain ⟨b, kvs, rfl, hb, hm⟩ := dm
    obtain ⟨g, pr, q⟩ := q
    have tn : vis F hd2 H2 a = none := by
      cases e : vis F hd2 H2 a with
      | none => rfl
      | some o => exact absurd h2.1 (vis_not_t e)
    have vg := vis_go rm.bs k2.go
    have vg1 := vis_go r1.bs km.go
    refine ⟨a, v1, b, v2, kvs, vis F hd2 H2, m, x, y, δ3.n, g, rfl, r2.tape a h2, ((vis_rd r2.bs).trans rd_nt).trans nt_in, tn, vg _ _ hb, hm.same vg, Dz.same (vg1.trans vg) d1, d2, pr, fun d n' pd v H' sH tH dv => ?_⟩
    have kp : ∀ b o, H2 b = some o → ¬ F.T b → H' b = some o := fun b o h t => sH b o (fun z => t (by rw [z]; exact h2.1)) h
    refine q d n' pd v hd2 H' (((k1.trans km).trans k2).trans ⟨kp, fun _ h => h⟩) (r2.kp kp fun b h => ?_) (Dz.same (over_vis r2 kp) dv)
    by_cases e : b = a
    · rw [e]; exact ⟨fun q z => absurd z (h2.2 q), fun _ => tH⟩
    · refine ⟨fun q z => TabS.lst ((r2.cat b h).1 q z) fun c o e2 no => sH c o (fun z => ?_) e2, fun z => absurd (F.one b a ⟨h, z⟩ h2) e⟩
      obtain ⟨x, y, u, hx, _⟩ := r2.tape a h2
      rw [z, hx] at e2
      exact no _ (Option.some.inj e2).symm
end
end Rp

/-! A liking laid by draws, each ahead of its upper, one as late as can be. -/
namespace Rp
open PySem PySem.Spec PyProof.Rows L2
variable {G : Gr} {row : List Str}
structure Laid (G : Gr) (row zs : List Str) (late : Str) (lk : List Str) : Prop where
  pm : lk.Perm zs
  up : ∀ f u, upAt G row f = some u → ixO lk f < ixO lk u
  last : ∀ x ∈ zs, x ≠ late → ixO lk late < ixO lk x → x ∈ aboveG G row late
/-- so far -/
structure Lay (G : Gr) (row zs : List Str) (late : Str) (found left : List Str) : Prop where
  pm : (found ++ left).Perm zs
  j1 : ∀ k u, found[k]? = some u → ∀ f, upAt G row f = some u → f ∈ found.take k
  j2 : ∀ k x, found[k]? = some x → x ≠ late → late ∈ found.take k → x ∈ aboveG G row late
  j3 : late ∈ found → ∀ x ∈ left, x ∈ aboveG G row late
end Rp

/-! The end of a law that asks for reprs and whose program makes lambdas in one def. -/
namespace Rp
open PySem PySem.Spec PyProof.Rows L2
/-- what may be tracked at the law's entry: the script, the table -/
structure Entry (h : Heap) (a P : Addr) (vals : List Value) : Prop where
  script : h.get? a = some { cls := .type "list", data := .seq vals.toArray }
  table : h.get? P = some { cls := .none, data := .fields #[] }
theorem Entry.ne {h : Heap} {a P : Addr} {vals : List Value} (T : Entry h a P vals) : P ≠ a := fun z => by
  have e := T.table
  rw [z, T.script] at e
  cases e
/-- an object that is neither is not tracked -/
theorem Entry.off {h : Heap} {a P : Addr} {vals : List Value} {H : Hp} (T : Entry h a P vals) (alone : ∀ b, H b ≠ none → b = a ∨ b = P) {b : Addr} {o : Obj} (e : h.get? b = some o) (n1 : o.cls ≠ .type "list") (n2 : o.cls ≠ .none ∨ o.data ≠ .fields #[]) : H b = none := by
  refine Classical.byContradiction fun z => ?_
  rcases alone b z with rfl | rfl
  · rw [T.script] at e
    cases e
    exact n1 rfl
  · rw [T.table] at e
    cases e
    rcases n2 with n2 | n2 <;> exact n2 rfl
theorem Entry.ns {h : Heap} {a P : Addr} {vals : List Value} {H : Hp} (T : Entry h a P vals) (alone : ∀ b, H b ≠ none → b = a ∨ b = P) {b : Addr} {m : Str → Option Value} (z : h.Ns b m) : (hidT h H).Ns b m := by
  obtain ⟨o, ents, cnt, e, dt, rest⟩ := z
  refine ⟨o, ents, cnt, hidT_get e ?_, dt, rest⟩
  refine Classical.byContradiction fun z => ?_
  rcases alone b z with rfl | rfl
  · rw [T.script] at e; cases e; cases dt
  · rw [T.table] at e; cases e; cases dt
theorem Entry.tab {h : Heap} {a P c : Addr} {vals : List Value} {H : Hp} {mg : Str → Option Value} (T : Entry h a P vals) (alone : ∀ b, H b ≠ none → b = a ∨ b = P) (globs : h.Ns mainGlobals mg) (C : PySem.W.CodeHd h c P)
    (bmod : ∃ (bm : Addr) (ob : Obj), mg "__builtins__" = some (.ref bm) ∧ bm ≠ builtinsNs ∧ h.get? bm = some ob ∧ ob.cls = .type "module" ∧ ob.dict = some builtinsNs ∧ ob.data = .plain) : LamX.TabB (hidT h H) mg c P := by
  have gP : mainGlobals ≠ P := fun z => by
    obtain ⟨o, ents, cnt, e, dt, _⟩ := globs
    rw [z, T.table] at e; cases e; cases dt
  refine ⟨?_, ?_, gP⟩
  · obtain ⟨o, us, file, tf, flags, tg, inF, text, tt, e1, r1, r2, r3, rest⟩ := C
    refine ⟨o, us, file, tf, flags, tg, inF, text, tt, hidT_get e1 ?_, r1, r2, r3, rest⟩
    refine Classical.byContradiction fun z => ?_
    rcases alone _ z with rfl | rfl
    · rw [T.script] at e1; cases e1; cases r2
    · rw [T.table] at e1; cases e1; cases r2
      simp at r3
  · obtain ⟨bm, ob, b1, b2, b3, b4, b5, b6⟩ := bmod
    refine ⟨bm, ob, b1, b2, fun z => ?_, fun z => ?_, hidT_get b3 (T.off alone b3 (by rw [b4]; decide) (.inl (by rw [b4]; exact fun z => nomatch z))), b4, b5, b6⟩
    · obtain ⟨o, ents, cnt, e, dt, _⟩ := globs
      rw [z, e] at b3; cases b3
      rw [b6] at dt; cases dt
    · rw [z, T.table] at b3; cases b3; cases b6
/-- the law's own call -/
theorem law_goesT {P : Program} {w : World} {K : PySem.W.Frag} {mg mb : Str → Option Value} {lev : Nat} {fa a c Pt : Addr} {fd : FuncData} {x : Str} {promise : Sp} {s : Shared} {vals : List Value} {ns : List Int}
    (inK : K.In s.heap) (globs : s.heap.Ns mainGlobals mg) (blts : s.heap.Ns builtinsNs mb) (boot : ∀ y : Str, y ≠ "__name__" → mb y = bootBuiltins y) (noLim : s.heap.NoLimit) (noGens : s.gens = #[])
    (table : s.heap.get? Pt = some { cls := .none, data := .fields #[] }) (nP : K.lookup Pt = none) (C : PySem.W.CodeHd s.heap c Pt)
    (bmod : ∃ (bm : Addr) (ob : Obj), mg "__builtins__" = some (.ref bm) ∧ bm ≠ builtinsNs ∧ s.heap.get? bm = some ob ∧ ob.cls = .type "module" ∧ ob.dict = some builtinsNs ∧ ob.data = .plain)
    (script : s.heap.get? a = some { cls := .type "list", data := .seq vals.toArray }) (whole : IntsAre vals ns) (few : ns.length ≤ sizeLine) (room : Room lev callerA)
    (F : ∀ base : Heap, K.In base → base.Ns mainGlobals mg → LamX.TabB base mg c Pt → FnOkG P w K mg base CX0 lev fa fd [x] promise) (binds : ∀ (s : Shared) (u : Value), BindsTo s fd ⟨[u], []⟩ [(x, u)])
    (asked : ∀ H : Hp, H Pt = some (.tbl #[]) → SqL K H a (ns.map V.int) → promise [.ref a] H (fun v _ => v = .bl true) fun _ _ _ => False) :
    codeAny (model P w) callerA (.call (.ref fa) ⟨[.ref a], []⟩) (fun r s' => r = .ok (.ret (.bool true)) ∧ OldK s.heap s'.heap ∧ s'.os = s.os ∧ AllBare s'.gens) s := by
  have T : Entry s.heap a Pt vals := ⟨script, table⟩
  have rel := vals_ints whole
  have many := whole.length
  let own : HO := .frz { cls := .type "list", data := .seq vals.toArray } (.lst (ns.map V.int))
  have main : ∀ H : Hp, H Pt = some (.tbl #[]) → (H a = none ∨ H a = some own) → (∀ b, H b ≠ none → b = a ∨ b = Pt) → SqL K H a (ns.map V.int) → (H a ≠ none → K.lookup a = none) →
      codeAny (model P w) callerA (.call (.ref fa) ⟨[.ref a], []⟩) (fun r s' => r = .ok (.ret (.bool true)) ∧ OldK s.heap s'.heap ∧ s'.os = s.os ∧ AllBare s'.gens) s := by
    intro H hP ha alone there notK
    have okH : HOk P w H s.heap := fun b u z => by
      rcases alone b (by rw [z]; exact fun z => nomatch z) with rfl | rfl
      · rcases ha with e | e
        · rw [e] at z; cases z
        · rw [e] at z; cases z
          exact ⟨script, by rw [List.length_map]; exact few, vals, _, rel, script⟩
      · rw [hP] at z; cases z
        exact table
    have inB : K.In (hidT s.heap H) := fun b o e => hidT_get (inK b o e) (Classical.byContradiction fun z => by
      rcases alone b z with rfl | rfl
      · rw [notK z] at e; cases e
      · rw [nP] at e; cases e)
    have env : Env0 P w K mg (hidT s.heap H) callerA [] s H := ⟨rfl, ⟨inB, T.ns alone globs, ⟨mb, T.ns alone blts, boot⟩, let ⟨mc, z1, z2⟩ := noLim; ⟨mc, T.ns alone z1, z2⟩⟩, fun b o e => of_hidT e, Nat.le_of_eq (hidT_size _ _), trivial,
      fun b z => absurd (show b ∈ ([] : List Addr) from z) (by simp), okH, .of_eq noGens⟩
    refine codeAny_mono ((F _ inB (T.ns alone globs) (T.tab alone globs C bmod)).goes callerA [] s H ⟨[.ref a], []⟩ [.ref a] [.ref a] _ _ rfl room env (binds s (.ref a)) (.cons rfl .nil) (asked H hP there)) fun r s' ends => ?_
    match r, ends with
    | .ok (.ret u), ends =>
      obtain ⟨v, H', sameOs, bare, kept, okH', ru, q⟩ := ends
      have q : v = .bl true := q
      subst q
      obtain rfl : u = Value.bool true := ru
      have there' : ∀ b o, b ≠ Pt → s.heap.get? b = some o → s'.heap.get? b = some o := fun b o nb e => by
        by_cases z : H b = none
        · exact kept.keep b o e z (by intro z; exact absurd (show b ∈ ([] : List Addr) from z) (by simp)) (by simp)
        · rcases alone b z with rfl | rfl
          · rcases ha with z' | z'
            · exact absurd z' z
            · have e2 := (okH' _ _ (kept.frzs _ _ _ z')).1
              rw [script] at e; cases e
              exact e2
          · exact absurd rfl nb
      obtain ⟨more, hm⟩ := kept.tbls Pt #[] hP
      have grown := okH' Pt _ hm
      have g2 : s'.heap.get? Pt = some { cls := .none, data := .fields (#[] ++ more) } := grown
      refine ⟨rfl, ⟨fun b o e => ?_, fun b o e => ?_⟩, sameOs, bare⟩
      · by_cases hb : b = Pt
        · subst hb
          rw [table] at e; cases e
          exact .inr (.inl ⟨(C.tab table).isCodeTable, rfl, #[], more, rfl, g2⟩)
        · exact .inl (there' b o hb e)
      · by_cases hb : b = Pt
        · subst hb; exact ⟨_, grown⟩
        · exact ⟨o, there' b o hb e⟩
  cases inOwn : K.lookup a with
  | some o =>
    have e := inK a o inOwn
    rw [script] at e
    cases e
    refine main (fun b => if b = Pt then some (.tbl #[]) else none) (if_pos rfl) (.inl (if_neg (Ne.symm T.ne))) (fun b z => .inr (Classical.byContradiction fun n => z (if_neg n))) (.inr ⟨_, vals.toArray, _, inOwn, rfl, rfl, rfl, by rw [List.size_toArray, many]; exact few, by simpa using rel⟩) fun z => absurd (if_neg (Ne.symm T.ne)) z
  | none =>
    refine main (fun b => if b = a then some own else if b = Pt then some (.tbl #[]) else none) ((if_neg T.ne).trans (if_pos rfl)) (.inr (if_pos rfl)) (fun b z => ?_) (.inl (.inr ⟨_, if_pos rfl⟩)) fun _ => inOwn
    by_cases h1 : b = a
    · exact .inl h1
    · exact .inr (Classical.byContradiction fun h2 => z ((if_neg h1).trans (if_neg h2)))
theorem walk_tabG {l : PySem.W.OpenLaw} {n lev : Nat} {q : Program} {loose : List Str} {XP : (Str → Option Value) → Heap → Prop} {YP : World → Heap → Prop} {d : DefRec} {K : Params → PySem.W.Frag} {promise : PySem.W.Frag → Addr → Sp} {x lam : Str}
    (hn : l.most = some n) (hn2 : n ≤ sizeLine) (hdf : d.params.defaults = []) (room : Room lev callerA) (hY : ∀ (w : World) (h : Heap), YP w h → (K w.params).In h) (hrec : ∃ dl, (recsOf q).find? (fun e => e.name == lam) = some dl)
    (F : ∀ (w : World) (mg : Str → Option Value) (fa : Addr) (h : Heap), (K w.params).In h → h.Ns mainGlobals mg → mg d.name = some (.ref fa) →
      ∃ (fd : FuncData) (c P : Addr), PySem.W.tabIn (K w.params) lam = some (c, P) ∧ (K w.params).lookup P = none ∧ (∀ (s : Shared) (u : Value), BindsTo s fd ⟨[u], []⟩ [(x, u)]) ∧ ∀ base : Heap, (K w.params).In base → base.Ns mainGlobals mg → LamX.TabB base mg c P → FnOkG l.prog w (K w.params) mg base CX0 lev fa fd [x] (promise (K w.params) P))
    (asked : ∀ (K : PySem.W.Frag) (P : Addr) (H : Hp) (a : Addr) (ns : List Int), ns.length ≤ n → H P = some (.tbl #[]) → SqL K H a (ns.map V.int) → promise K P [.ref a] H (fun v _ => v = .bl true) fun _ _ _ => False) :
    PySem.W.WalkO q loose XP YP l.row.toRowW d [] (fun f vs => PySem.call f vs) := by
  refine Att.attach_call hn hdf fun w s0 s1 mg mb fa o pm cd doc a vs ns G Y ho hd hcd hmg hobj hints hlen hg => ?_
  have inK := hY w _ Y
  obtain ⟨fd, c, P, ht, nP, hb, hF⟩ := F w mg fa _ inK G.T.g hmg
  obtain ⟨dl, hdl⟩ := hrec
  obtain ⟨C, hP⟩ := PySem.W.tab_of G.T inK hdl ht
  exact law_goesT inK G.T.g G.T.b G.T.builtins G.T.nolimit hg hP nP C G.T.bmain hobj hints (Nat.le_trans hlen hn2) room hF hb fun H hH hS => asked _ P H a ns hlen hH hS
end Rp

/-! A fruit placed otherwise: at which turn it goes. -/
namespace Rp
open PySem PySem.Spec PyProof.Rows L2
variable {G : Gr} {lk : List Str} {f : Str}
end Rp

/-! Steps of a fruit, and the rearmost place by which it goes at a turn or sooner. -/
namespace Rp
open PySem PySem.Spec PyProof.Rows L2
variable {G : Gr} {lk : List Str} {f : Str}
end Rp

/-! try around a def that makes a lambda, and such a def called by names; what never_ripe, steps and rearmost promise. -/
namespace Rp
open PySem PySem.Spec PyProof.Rows L2
section
variable {K : PySem.W.Frag} {E : XK}
def bDropP (P : Addr) (q : Str) (s : WF) (w : TDa) : TDb := fun Y X D δ => X.tb P q ∧ w X δ fun ds δ1 => s.wp ds 0 (fun _ _ => D.nx δ1) (fun C d => Y C d δ1)
instance {P : Addr} {q : Str} {al : List Bool} {s : WF} {t : TA} {w : TDa} [p : PuA K E al t w] : PuB K E (fun W => tDrop (tCallS (spP K P q al s) (WE W) t)) (bDropP P q s w) where
  mono h hy := fun ⟨a, z⟩ => ⟨a, p.mono (fun _ _ z => WF.mono (fun _ _ z => h.nx _ z) (fun _ _ z => hy _ _ _ z) z) z⟩
  run {F hd σ H δ D' D Y W} hE r e hY := fun ⟨hp, z⟩ => p.run hE r (p.mono (fun ds δ1 z vs hd1 H1 k1 r1 d1 => by
    refine call_runP hp k1 r1 d1 (WF.mono (fun d _ z v hd2 H2 k2 r2 _ => e.nx _ _ _ _ k2.go r2 z) (fun _ _ z => z) z) fun C d z e' v H' ne x T2 he dv => ?_
    obtain ⟨k2, r2⟩ := r1.tabled hp x T2
    obtain ⟨f1, f2, f3⟩ := r1.fresh ne
    exact hY C d δ1 e' v hd1 H' ((k1.trans k2).go) r2 (by rw [vis_new f1 f2]; exact he) (Dz.same (over_vis r1 k2.kp) dv) z) z)
/-- by names, the other way round -/
def dCallPK (P : Addr) (q : Str) (s : WF) (w : TDa) : TD := fun X δ Q => X.tb P q ∧ w X δ fun ds δ1 => s.wp ds.reverse 0 (fun d _ => Q d δ1) (fun _ _ => False)
end
def wf_refuseX (C : Addr) : WF := { G := Gr × Str, pre := fun g ds _ => ∃ a, ds = [a, .str g.2] ∧ flat a = grD g.1 ∧ okGr g.1, post := fun g d _ => g.2 ∈ g.1.map (·.1) ∧ d = .none, err := fun g C' d => C' = C ∧ g.2 ∉ g.1.map (·.1) ∧ d = .str g.2 }
end Rp

/-! The places by which a fruit goes at a turn or sooner are those up to the rearmost. -/
namespace Rp
open PySem PySem.Spec PyProof.Rows L2
variable {G : Gr} {lk : List Str} {f : Str}
end Rp

/-! set(xs), xs a list of ints, and sorted of it. -/
namespace Rp
open PySem PySem.Spec PyProof.Rows L2
section
variable {P : Program} {w : World} {A : Around} {E : Value → Shared → Prop} {s : Shared}
end
section
variable {X : Cx}
def rSetLI (K : PySem.W.Frag) (w : World) : List V → Hp → VK → Prop := fun xs H Q => ∃ (l : Addr) (ns : List Int), xs = [V.ref l] ∧ SqL K H l (ns.map V.int) ∧ ns.length < 64 ∧ ∀ a c, H a = none → c ≤ ns.length → Q (.ref a) (upd H a (SetO w a (fun j => decide (j ∈ ns)) c))
end
section
variable {K : PySem.W.Frag} {E : XK} {P : Program} {w : World}
theorem dz_intsL {H : Hp} : ∀ {vs : List V} {ns : List Int}, DzAll K H vs (ns.map .int) → vs = ns.map V.int
  | _, [], .nil => rfl
  | _, n :: ns, .cons a t => by
    cases a
    rw [dz_intsL t]; rfl
theorem ints_dzL {H : Hp} : ∀ ns : List Int, DzAll K H (ns.map V.int) (ns.map .int)
  | [] => .nil
  | n :: ns => .cons (.int n) (ints_dzL ns)
def dSetI (wa : TRd) : TD := fun X δ Q => wa X δ fun l x δ1 => ∃ ns : List Int, x = .list (ns.map .int) ∧ ns.length < 64 ∧ ∀ ms : List Int, ms.Pairwise (· < ·) → (∀ k, k ∈ ms ↔ k ∈ ns) → Q (.list (ms.map .int)) δ1
instance {t : TE} {wa : TRd} [p : PuR K E t wa] : PuE K E (tCB (rSortedSet w) (tCons (tCB (rSetLI K w) (tCons t tNil)) tNil)) (dSetI wa) where
  mono h := p.mono fun _ _ _ ⟨z, a, b, q⟩ => ⟨z, a, b, fun M m1 m2 => h _ _ (q M m1 m2)⟩
  run hE r q := un1 (t := t) hE r q fun l x δ1 v hd1 H1 k1 r1 d1 ⟨ns, ex, le, q⟩ => by
    subst ex
    obtain ⟨a, vs, rfl, hs, ha⟩ := d1.seq r1.bs (.inl rfl)
    have ev := dz_intsL ha
    subst ev
    rcases hs with hs | hs
    · refine ⟨a, ns, rfl, nt_in.seq hs.2, le, fun S c nS hc => ?_⟩
      obtain ⟨k2, r2, s2⟩ := r1.new (SetO w S (fun j => decide (j ∈ ns)) c) nS
      refine ⟨S, _, c, rfl, upd_same, by omega, fun ms p ms1 ms2 ms3 np => ?_⟩
      refine newLst r2 np (ints_dzL ms) ?_
      exact Out.kp (k1.trans k2) (q ms ms1 fun k => by rw [ms2 k]; simp)
    · cases hs.1
end
end Rp

/-! dicts by ints at the level without the heap: dict(pairs), d[k], not in. -/
namespace Rp
open PySem PySem.Spec PyProof.Rows L2
abbrev Mi := List (Int × PyData)
def mpI (m : Mi) : List (Key × PyData) := m.map fun p => (.inl p.1, p.2)
def lookI (m : Mi) (k : Int) : Option PyData := (m.find? fun p => decide (p.1 = k)).map (·.2)
def prsI (m : Mi) : PyData := .list (m.map fun p => .tuple [.int p.1, p.2])
def rDictI (K : PySem.W.Frag) : List V → Hp → VK → Prop := rDictP K
def tDGetI (td ty : TE) : TE := tDGet td ty
def rNotInI (x y : V) (H : Hp) (Q : VK) : Prop := ∃ (k : Int) (a : Addr) (kvs : List (Key × V)), x = .int k ∧ y = .ref a ∧ H a = some (.dK kvs) ∧ Q (.bl (!(valV kvs (.inl k)).isSome)) H
section
variable {K : PySem.W.Frag} {E : XK}
theorem di_pairs {H : Hp} : ∀ {m : Mi} {vs : List V}, DzAll K H vs (m.map fun p => PyData.tuple [.int p.1, p.2]) → ∃ (ps : List Addr) (kvs : List (Key × V)), vs = ps.map V.ref ∧ Paired (fun p kv => SqT K H p [kV kv.1, kv.2]) ps kvs ∧ MapAt K H kvs (mpI m)
  | [], _, h => by cases h; exact ⟨[], [], rfl, .nil, rfl, .nil⟩
  | (z, d) :: m, _, h => by
    cases h with
    | cons a t =>
      obtain ⟨ps, kvs, h1, h2, h3⟩ := di_pairs t
      cases a with
      | @tup p xs _ hs nd ha =>
        cases ha with
        | cons b c =>
          cases b
          cases c with
          | @cons v _ _ _ b c =>
            cases c
            refine ⟨p :: ps, (.inl z, v) :: kvs, by rw [h1]; rfl, .cons hs h2, ?_, .cons b h3.2⟩
            have := h3.1
            simp only [List.map_cons, mpI] at this ⊢
            rw [this]
theorem MapAt.lookI {H : Hp} : ∀ {kvs : List (Key × V)} {m : Mi}, MapAt K H kvs (mpI m) → ∀ z : Int, (valV kvs (.inl z) = none ∧ Rp.lookI m z = none) ∨ ∃ v d, valV kvs (.inl z) = some v ∧ Rp.lookI m z = some d ∧ Dz K H v d
  | [], [], _, z => .inl ⟨rfl, rfl⟩
  | [], _ :: _, h, z => by have := h.1; simp [mpI] at this
  | _ :: _, [], h, z => by have := h.1; simp [mpI] at this
  | (k, v) :: kvs, (x, d) :: m, h, z => by
    have h1 := h.1
    have h2 := h.2
    simp only [mpI, List.map_cons] at h1 h2
    injection h1 with e1 e2
    cases h2 with
    | cons a t =>
      have e1 : k = Sum.inl x := e1
      subst e1
      by_cases c : x = z
      · subst c
        exact .inr ⟨v, d, valV_pos rfl, by simp [Rp.lookI], a⟩
      · have c' : ¬ (Sum.inl x : Key) = .inl z := fun e => c (Sum.inl.inj e)
        have l : Rp.lookI ((x, d) :: m) z = Rp.lookI m z := by simp [Rp.lookI, c]
        rw [valV_neg c', l]
        exact MapAt.lookI ⟨e2, t⟩ z
/-- name = dict(pairs) -/
def sMapI (w : TRd) (i : Nat) : TDs := fun X P δ => w X δ fun l x δ1 => ∃ m : Mi, x = prsI m ∧ l.ch = .V ∧ (m.map (·.1)).Nodup ∧ P.nx ⟨δ1.v.set i (.obj (.map (mpI m))), δ1.n⟩
instance (priority := 1100) {t : TE} {i : Nat} {w : TRd} [p : PuR K E t w] : PuS K E (tAsg (tCB (rDictI K) (tCons t tNil)) (gName i)) (sMapI w i) where
  mono h := p.mono fun _ _ _ ⟨m, a, b, c, q⟩ => ⟨m, a, b, c, h.nx _ q⟩
  run {F hd σ H δ P D} hE r e q := un1 (t := t) hE r q fun l x δ1 v hd1 H1 k1 r1 d1 ⟨m, ex, lc, nd, q⟩ => by
    subst ex
    obtain ⟨a, vs, rfl, hs, ha⟩ := d1.seq r1.bs (.inl rfl)
    have hv := DzAll.upU ha (.inl lc)
    obtain ⟨ps, kvs, rfl, hp, hm⟩ := di_pairs hv
    have s := vis_in r1
    rcases hs with hs | hs
    · refine ⟨a, ps, kvs, rfl, nt_in.seq hs.2, Paired.same s hp, fun p np => ?_⟩
      have e' : mergeK [] kvs = kvs := by
        have := merge_nodup (more := kvs) (acc := []) (by
          rw [List.nil_append, hm.1]
          unfold mpI
          rw [List.map_map]
          have : (m.map ((fun x : Key × PyData => x.1) ∘ fun p : Int × PyData => (Sum.inl p.1, p.2))) = (m.map (·.1)).map Sum.inl := by rw [List.map_map]; rfl
          rw [this]
          unfold List.Nodup at nd ⊢
          rw [List.pairwise_map]
          exact nd.imp fun h e => h (Sum.inl.inj e))
        simpa using this
      rw [e']
      obtain ⟨k2, r2, s2⟩ := r1.new (.dK kvs) np
      have ob : ObAt K (vis F hd1 (upd H1 p (.dK kvs))) (.ref p) (.map (mpI m)) := ⟨p, kvs, rfl, r1.seen np, hm.same s2⟩
      exact e.nx _ _ _ _ (k1.trans k2).go (r2.setObj ob) q
    · cases hs.1
/-- d[k] -/
def dGetK (i : Nat) (w : TRd) : TD := fun X δ Q => ∃ m : Mi, δ.v[i]? = some (.obj (.map (mpI m))) ∧ w X δ fun _ y δ2 => ∃ z d, y = .int z ∧ lookI m z = some d ∧ Q d δ2
instance {i : Nat} {t : TE} {w : TRd} [p : PuR K E t w] : PuE K E (tDGetI (tVar i) t) (dGetK i w) where
  mono h := fun ⟨m, e, q⟩ => ⟨m, e, p.mono (fun _ _ _ ⟨z, d, e, f, q⟩ => ⟨z, d, e, f, h _ _ q⟩) q⟩
  run {F hd σ H δ Q} hE r := fun ⟨m, e, q⟩ => by
    obtain ⟨v, h1, a, kvs, rfl, h2, h3⟩ := r.vars i _ e
    refine ⟨_, h1, ?_⟩
    refine p.run hE r (p.mono (fun l y δ2 ⟨z, d, ey, ez, q⟩ u hd2 H2 k2 r2 d2 => ?_) q)
    subst ey
    have := d2.int r2.bs
    subst this
    have vg := vis_go r.bs k2.go
    have s2 := vis_in r2
    rcases MapAt.lookI (h3.same vg) z with ⟨e1, e2⟩ | ⟨w, d', e1, e2, dw⟩
    · rw [ez] at e2; cases e2
    · rw [ez] at e2; cases e2
      exact ⟨a, w, rfl, .inl ⟨kvs, .inl z, .inl (s2 _ _ (vg _ _ h2)), rfl, e1.symm⟩, q _ _ _ k2 r2 dw⟩
/-- k not in d -/
def dNotK (i : Nat) (w : TRd) : TD := fun X δ Q => w X δ fun _ y δ2 => ∃ (m : Mi) (z : Int), δ2.v[i]? = some (.obj (.map (mpI m))) ∧ y = .int z ∧ Q (.bool (!(lookI m z).isSome)) δ2
instance {i : Nat} {t : TE} {w : TRd} [p : PuR K E t w] : PuE K E (tOp rNotInI t (tVar i)) (dNotK i w) where
  mono h := p.mono fun _ _ _ ⟨m, z, e, f, q⟩ => ⟨m, z, e, f, h _ _ q⟩
  run {F hd σ H δ Q} hE r q := un1 (t := t) hE r q fun l x δ1 v hd1 H1 k1 r1 d1 ⟨m, z, e, ey, q⟩ => by
    subst ey
    have := d1.int r1.bs
    subst this
    obtain ⟨u, h1, a, kvs, rfl, h2, h3⟩ := r1.vars i _ e
    refine ⟨_, h1, z, a, kvs, rfl, rfl, vis_in r1 _ _ h2, ?_⟩
    rcases MapAt.lookI h3 z with ⟨e1, e2⟩ | ⟨w, d', e1, e2, dw⟩
    · rw [e1]; rw [e2] at q; exact q _ _ _ k1 r1 (.bl _)
    · rw [e1]; rw [e2] at q; exact q _ _ _ k1 r1 (.bl _)
end
end Rp

/-! Steps of a fruit as it is placed otherwise: they rise, each turn is a step's, each step is met at its place. -/
namespace Rp
open PySem PySem.Spec PyProof.Rows L2
variable {G : Gr} {lk : List Str} {f : Str}
/-! ### what turn_of, placed and turn_at promise -/
def turnN (G : Gr) (lk : List Str) (f : Str) : Option Nat := if f ∈ pickG G lk then some (ixO (pickG G lk) f + 1) else none
def wf_turnof (C : Addr) : WF := { G := Gr × List Str × Str, pre := fun g ds _ => ∃ a b, ds = [a, b, .str g.2.2] ∧ flat a = grD g.1 ∧ Items b (g.2.1.map .str) ∧ okGr g.1 ∧ (∀ p ∈ g.1, p.1 ∈ g.2.1) ∧ g.2.1.length ≤ 100, post := fun g d _ => g.2.2 ∈ g.1.map (·.1) ∧ d = natD (turnN g.1 g.2.1 g.2.2), err := fun g C' d => C' = C ∧ g.2.2 ∉ g.1.map (·.1) ∧ d = .str g.2.2 }
end Rp

/-! Steps as data, and as a dict by their turns. -/
namespace Rp
open PySem PySem.Spec PyProof.Rows L2
variable {G : Gr} {lk : List Str} {f : Str}
end Rp

/-! Defs with a table that tell a list made anew; such lists told, looked at, changed, and left behind. -/
namespace Rp
open PySem PySem.Spec PyProof.Rows L2
section
variable {K : PySem.W.Frag} {E : XK}
/-! ### statements that end in a list made anew -/
abbrev TDr := XP → (List PyData → Prop) → DS → Prop
class PuRN (K : PySem.W.Frag) (E : XK) (t : TS) (w : outParam TDr) : Prop where
  run : ∀ {F : Frm K} {hd : Addr → Prop} {σ : L2.St} {H : Hp} {δ : DS} {Q : List PyData → Prop} {D : L2.Ends}, F.E = E → Rep K F hd σ H δ →
    (∀ es p us hd' σ' H' δ', Go F hd H hd' H' → Rep K F hd' σ' H' δ' → F.H0 p = none → H' p = some (.lst us) → DzAll K (vis F hd' H') us es → Q es → D.rt (.ref p) H') → w F.X Q δ → t D σ H
def rRet (we : TDa) : TDr := fun X Q δ => we X δ fun es _ => Q es
instance {te : TE} {we : TDa} [pe : PuN K E te we] : PuRN K E (tRet te) (rRet we) where
  run hE r e z := pe.run hE r (pe.mono (fun es δ2 q p us hd2 H2 k2 r2 r3 np n0 hp dd => e es p us _ _ _ _ ⟨fun b o h t _ => k2.kp b o h t, fun b z => z.elim (fun z => .inl (k2.less b z)) fun z => .inr (by rw [z]; exact n0.2)⟩ r3 n0.1 hp dd q) z)
def rSeq (ws : TDs) (wt : TDr) : TDr := fun X Q δ => ws X { nx := fun δ' => wt X Q δ', rt := fun _ _ => False } δ
instance {s t : TS} {ws : TDs} {wt : TDr} [p : PuS K E s ws] [q : PuRN K E t wt] : PuRN K E (tSeq s t) (rSeq ws wt) where
  run {F hd σ H δ Q D} hE r e z := p.run (P := { nx := fun δ' => wt F.X Q δ', rt := fun _ _ => False }) (D := { D with nx := t D }) hE r ⟨fun hd' σ' H' δ' g' r' z => q.run hE r' (fun es p us hd2 σ2 H2 δ2 g2 r2 => e es p us hd2 σ2 H2 δ2 (g'.trans r'.bs r2.bs g2) r2) z, fun _ _ _ _ _ _ _ _ _ z => z.elim, fun _ _ _ _ _ _ z => z.elim, fun _ _ _ _ _ _ z => z.elim⟩ z
def rIf (wc : TDt) (wa wb : TDr) : TDr := fun X Q δ => wc X δ fun b δ1 => if b = true then wa X Q δ1 else wb X Q δ1
instance (priority := 2000) {tc : TT} {a t : TS} {wc : TDt} {wa wt : TDr} [pc : PuT K E tc wc] [p : PuRN K E a wa] [q : PuRN K E t wt] : PuRN K E (tSeq (tIfS tc a tNext) t) (rIf wc wa wt) where
  run {F hd σ H δ Q D} hE r e z := pc.run hE r (pc.mono (fun b δ1 z hd1 H1 k1 r1 => by
    have e1 : ∀ es p us hd' σ' H' δ', Go F hd1 H1 hd' H' → Rep K F hd' σ' H' δ' → F.H0 p = none → H' p = some (.lst us) → DzAll K (vis F hd' H') us es → Q es → D.rt (.ref p) H' := fun es p us hd2 σ2 H2 δ2 g2 r2 => e es p us hd2 σ2 H2 δ2 (k1.go.trans r1.bs r2.bs g2) r2
    cases b with
    | true => exact p.run (D := { D with nx := t D }) hE r1 e1 z
    | false => exact q.run hE r1 e1 z) z)
/-! ### the promise -/
def spPN (K : PySem.W.Frag) (P : Addr) (q : Str) (al : List Bool) (s : WF) : Sp := fun vs H Q E => ∃ (V0 : Hp) (ds : List PyData), LamX.TabS H P q ∧ V0 P = none ∧ Same V0 H ∧ ArgsV K V0 (mask P H) al vs ds ∧
  s.wp ds 0 (fun d _ => ∀ es, d = .list es → ∀ p us H', Off P H H' → LamX.TabS H' P q → H p = none → H' p = some (.lst us) → DzAll K (over V0 H H') us es → Q (.ref p) H') (fun C d => ∀ (e : Addr) (v : V) (H' : Hp), H e = none → Off P H H' → LamX.TabS H' P q → H' e = some (.xd [("what", v)]) → Dz K (over V0 H H') v d → E (.ref C) (some e) H')
theorem spPN_of {P : Addr} {q : Str} {al : List Bool} {s : WF} {vs : List V} {H : Hp} {Q : VK} {E : XK} (h : spP K P q al s vs H Q E) : spPN K P q al s vs H Q E := by
  obtain ⟨V0, ds, hT, vP, sV, d, w⟩ := h
  refine ⟨V0, ds, hT, vP, sV, d, WF.mono (fun d _ q es ed p us H' sH T2 np hp dd => ?_) (fun _ _ z => z) w⟩
  subst ed
  refine q _ _ sH T2 (.lst (.inl (.inl ?_)) dd)
  unfold over
  rw [if_neg (by rw [np]; simp)]; exact hp
instance {P : Addr} {q : Str} {al : List Bool} {s : WF} {t : TA} {w : TDa} [p : PuA K E al t w] : PuE K E (tCall (spPN K P q al s) [] E0 t) (dCallP P q s w) where
  mono h := fun ⟨e, z⟩ => ⟨e, p.mono (fun _ _ z => WF.mono (fun _ _ z => h _ _ z) (fun _ _ z => z) z) z⟩
  run hE r := fun ⟨hp, z⟩ => p.run hE r (p.mono (fun ds δ1 z vs hd1 H1 k1 r1 d1 => by show spPN K P q al s (vs ++ []) H1 _ _; rw [List.append_nil]; exact spPN_of (call_runP hp k1 r1 d1 z fun _ _ z => z.elim)) z)
instance {P : Addr} {q : Str} {al : List Bool} {s : WF} {t : TA} {w : TDa} [p : PuA K E al t w] : PuB K E (fun W => tDrop (tCallS (spPN K P q al s) (WE W) t)) (bDropP P q s w) where
  mono h hy := fun ⟨a, z⟩ => ⟨a, p.mono (fun _ _ z => WF.mono (fun _ _ z => h.nx _ z) (fun _ _ z => hy _ _ _ z) z) z⟩
  run {F hd σ H δ D' D Y W} hE r e hY := fun ⟨hp, z⟩ => p.run hE r (p.mono (fun ds δ1 z vs hd1 H1 k1 r1 d1 => by
    refine spPN_of (call_runP hp k1 r1 d1 (WF.mono (fun d _ z v hd2 H2 k2 r2 _ => e.nx _ _ _ _ k2.go r2 z) (fun _ _ z => z) z) fun C d z e' v H' ne x T2 he dv => ?_)
    obtain ⟨k2, r2⟩ := r1.tabled hp x T2
    obtain ⟨f1, f2, f3⟩ := r1.fresh ne
    exact hY C d δ1 e' v hd1 H' ((k1.trans k2).go) r2 (by rw [vis_new f1 f2]; exact he) (Dz.same (over_vis r1 k2.kp) dv) z) z)
/-! ### told = [f(..)]; told.append(..); if not ..: return ..; told[0].append(..) -/
def sSegP (i : Nat) (P : Addr) (q : Str) (s1 : WF) (wa1 : TDa) (w2 : TD) (wc : TDt) : TDs := fun X D δ => i < δ.v.length ∧ X.tb P q ∧
  wa1 X δ fun ds1 δ1 => s1.wp ds1 0 (fun d1 _ => (∃ es1, d1 = .list es1 ∧ es1.length < sizeLine) ∧ w2 X ⟨δ1.v.set i (.own [d1]), δ1.n⟩ fun d2 δ2 => δ2.v[i]? = some (.own [d1]) ∧
    wc X ⟨δ2.v.set i (.own [d1, d2]), δ2.n⟩ fun b δ4 => b = false ∧ D.nx ⟨δ.v.set i .no, δ4.n⟩) (fun _ _ => False)
instance (priority := 3000) {i : Nat} {P : Addr} {q : Str} {al1 : List Bool} {s1 : WF} {ta1 : TA} {wa1 : TDa} {t2 : TE} {w2 : TD} {tc : TT} {wc : TDt} {tr tz : TS} {wz : TDs} {z : Str}
    [p1 : PuA K E al1 ta1 wa1] [p2 : PuE K E t2 w2] [p4 : PuT K E tc wc] [pz : PuS K E tz wz] :
    PuS K E (tSeq (tAsg (tLst (tCons (tCall (spPN K P q al1 s1) [] E0 ta1) tNil)) (gName i)) (tSeq (tDrop (tBM K "list" rAppend (tVar i) (tCons t2 tNil))) (tSeq (tIfS tc tr tNext) (tSeq (tDrop (tBM K "list" rAppend (tOp (rIx K) (tVar i) (tC (.int 0))) (tCons (tC (.str z)) tNil))) tz))))
      (sSeq (sSegP i P q s1 wa1 w2 wc) wz) where
  mono h := fun ⟨e3, e4, y⟩ => ⟨e3, e4, p1.mono (fun _ _ => WF.mono (fun _ _ ⟨a, y⟩ => ⟨a, p2.mono (fun _ _ ⟨b, y⟩ => ⟨b, p4.mono (fun _ _ ⟨e, y⟩ => ⟨e, pz.mono h y⟩) y⟩) y⟩) (fun _ _ z => z)) y⟩
  run {F hd σ H δ D' D} hE r e := fun ⟨e3, hp, y⟩ => by
    refine p1.run hE r (p1.mono (fun ds1 δ1 y vs1 hd1 H1 k1 r1 d1 => ?_) y)
    show spPN K P q al1 s1 (vs1 ++ []) H1 _ _
    rw [List.append_nil]
    have tP := F.tbT P q hp
    have vP : vis F hd1 H1 P = none := by
      cases c : vis F hd1 H1 P with
      | none => rfl
      | some o => exact absurd tP (vis_not_t c)
    refine ⟨vis F hd1 H1, ds1, (r1.cat P tP).1 q hp, vP, vis_in r1, ArgsV.same (fun _ _ e => e) (fun b o eb => ?_) d1, WF.mono (fun _ _ y es1 ed1 a1 us1 H2 off T2 na1 ha1 dd1 => ⟨by simp; rw [sizeLine_eq]; decide, fun p0 np0 => ?_⟩) (fun _ _ z => z.elim) y⟩
    · obtain ⟨t, eb⟩ := nt_some eb
      rw [mask_ne (fun z => t (by rw [z]; exact tP))]; exact eb
    obtain ⟨⟨es1', ed1', l1⟩, y⟩ := y
    subst ed1
    cases ed1'
    obtain ⟨k2, r2⟩ := r1.tabled hp off T2
    have f1 := r1.fresh na1
    have ba1 : H a1 = none := k1.back f1.2.2 na1
    obtain ⟨k3, r3, s3⟩ := r2.new (.lst [V.ref a1]) np0
    have f0 := r2.fresh np0
    have b0 : H p0 = none := (k1.trans k2).back f0.2.2 np0
    have v1 : Dz K (vis F hd1 H2) (.ref a1) (.list es1) := .lst (.inl (.inl (r1.seen2 na1 ha1))) (DzAll.same (over_vis r1 k2.kp) dd1)
    have n01 : p0 ≠ a1 := fun z => by rw [z, ha1] at np0; cases np0
    have gh : Rep K F (fun b => hd1 b ∨ b = p0) σ (upd H2 p0 (.lst [V.ref a1])) δ1 :=
      r2.grow (H1 := upd H2 p0 (.lst [V.ref a1])) (hd1 := fun b => hd1 b ∨ b = p0) (fun b o eb _ => by rw [upd_ne (ne_of_none eb np0)]; exact eb) (fun _ z => .inl z) (fun b z => z.elim .inl fun z => .inr (by rw [z]; exact np0)) (fun b z => by
        rcases z with z | z
        · have := r2.bs.hs b z
          by_cases c : b = p0
          · rw [c, upd_same]; rfl
          · rw [upd_ne c]; exact this
        · rw [z, upd_same]; rfl) (n := δ1.n) (fun b t => (r2.cat b t).new np0)
    have v1h : Dz K (vis F (fun b => hd1 b ∨ b = p0) (upd H2 p0 (.lst [V.ref a1]))) (.ref a1) (.list es1) :=
      Dz.same (vis_go r2.bs ⟨fun b o eb _ _ => by rw [upd_ne (ne_of_none eb np0)]; exact eb, fun b z => z.elim .inl fun z => .inr (by rw [z]; exact np0)⟩) v1
    have rown := r3.setOwn (i := i) gh f0.1 upd_same (DzAll.cons v1h .nil)
    have s0 : (σ.set i (some (V.ref p0)))[i]? = some (some (V.ref p0)) := List.getElem?_set_self (by rw [r.len]; exact e3)
    refine ⟨.ref p0, s0, .inl ⟨rfl, _, .inl (.inl upd_same)⟩, p2.run hE rown (p2.mono (fun d2 δ2 y v2 hd5 H5 k5 r5 dv2 => ?_) y)⟩
    obtain ⟨own5, y⟩ := y
    have h0 : H5 p0 = some (.lst [V.ref a1]) := k5.kp _ _ upd_same f0.2.2
    have h1 : H5 a1 = some (.lst us1) := k5.kp _ _ (by rw [upd_ne (fun z => n01 z.symm)]; exact ha1) f1.2.2
    obtain ⟨a', vs', g1, g2, g3, g4⟩ := r5.vars i _ own5
    rw [s0] at g1; cases g1
    rw [h0] at g3; cases g3
    obtain ⟨gg, r6⟩ := r5.store (vs := [V.ref a1]) own5 s0 (DzAll.snoc g4 dv2)
    refine ⟨p0, [V.ref a1], v2, rfl, rfl, h0, by simp; rw [sizeLine_eq]; decide, ?_⟩
    refine p4.run hE r6 (p4.mono (fun b δ4 ⟨eb, y⟩ hd9 H9 k9 r9 => ?_) y)
    subst eb
    have kH5 : ∀ b o, H b = some o → ¬ F.T b → H5 b = some o := fun b o hb t => k5.kp _ _ (by rw [upd_ne (ne_of_none hb b0)]; exact off b o (fun z => t (by rw [z]; exact tP)) (k1.kp _ _ hb t)) t
    have kH9 : ∀ b o, H b = some o → ¬ F.T b → H9 b = some o := fun b o hb t => k9.kp _ _ (by rw [upd_ne (ne_of_none hb b0)]; exact kH5 b o hb t) t
    have h09 : H9 p0 = some (.lst ([V.ref a1] ++ [v2])) := k9.kp _ _ upd_same f0.2.2
    have h19 : H9 a1 = some (.lst us1) := k9.kp _ _ (by rw [upd_ne (fun z => n01 z.symm)]; exact h1) f1.2.2
    have lus : us1.length < sizeLine := by rw [DzAll.len dd1]; exact l1
    rw [if_neg (by decide)]
    simp only [tNext, tSeq]
    refine ⟨.ref p0, s0, .inl ⟨p0, _, 0, .ref a1, rfl, rfl, .inl (.inl h09), rfl, .inl ⟨rfl, _, .inl (.inl h19)⟩, a1, us1, _, rfl, rfl, h19, lus, ?_⟩⟩
    have kk : ∀ b o, H b = some o → ¬ F.T b → (upd H9 a1 (.lst (us1 ++ [V.str z]))) b = some o := fun b o h' t => by rw [upd_ne (ne_of_none h' ba1)]; exact kH9 b o h' t
    have rz := (r.kp (n := δ4.n) kk (fun b t => (r9.cat b t).lst h19 (fun z => f1.2.2 (by rw [← z]; exact t)))).drop (i := i) (o := some (V.ref p0))
    exact pz.run hE rz (e.go rz ⟨fun b o e t _ => kk b o e t, fun _ z => .inl z⟩) y
end
end Rp

/-! Steps by the turns at all places. -/
namespace Rp
open PySem PySem.Spec PyProof.Rows L2
variable {G : Gr} {lk : List Str} {f : Str}
theorem deep_nat (k : Nat) (o : Option Nat) : Deep k (natD o) := by cases o <;> cases k <;> trivial
section
variable {K : PySem.W.Frag} {E : XK}
/-- by names, in an order of their own -/
def dCallPP (P : Addr) (q : Str) (gD : List PyData → List PyData) (s : WF) (w : TDa) : TD := fun X δ Q => X.tb P q ∧ w X δ fun ds δ1 => s.wp (gD ds) 0 (fun d _ => Q d δ1) (fun _ _ => False)
end
end Rp

/-! Pickings of an orchard: what is_of and the law's own defs promise. -/
namespace Rp
open PySem PySem.Spec PyProof.Rows L2
abbrev Nt := List Str × List Str
end Rp
namespace Rp
open PySem PySem.Spec PyProof.Rows L2
end Rp

/-! Whether a fruit is ripe for sure, by pickings of an orchard that nobody has seen: what the defs promise. -/
namespace Rp
open PySem PySem.Spec PyProof.Rows L2
theorem Al.snoc {α : Type} {R : PyData → α → Prop} : ∀ {ds : List PyData} {l : List α} {d : PyData} {x : α}, Al R ds l → R d x → Al R (ds ++ [d]) (l ++ [x])
  | _, _, _, _, .nil, h => .cons h .nil
  | _, _, _, _, .cons a t, h => .cons a (t.snoc h)
def clB : Option (List Str) → Option (List Str) → Bool
  | some a, some b => inAll a b
  | _, _ => false
def noClash (ps : List Nt) : Prop := ∀ p ∈ ps, ∀ q ∈ ps, ∀ f ∈ p.1, clB (byG p.2 f) (notByG q.1 q.2 f) = false
end Rp

/-! Ripe for sure: what pickings of one orchard tell of a fruit is so. -/
namespace Rp
open PySem PySem.Spec PyProof.Rows L2
variable {G : Gr} {lk : List Str} {f : Str} {ls : List (List Str)}
theorem one_fruit : ∀ {G : Gr}, (G.map (·.1)).Nodup → ∀ {p q : Str × List (List Str)}, p ∈ G → q ∈ G → p.1 = q.1 → p = q
  | [], _, _, _, h, _, _ => by cases h
  | a :: G, nd, p, q, hp, hq, e => by
    rw [List.map_cons, List.nodup_cons] at nd
    rcases List.mem_cons.mp hp with rfl | hp'
    · rcases List.mem_cons.mp hq with rfl | hq'
      · rfl
      · exact absurd (List.mem_map.mpr ⟨q, hq', e.symm⟩) nd.1
    · rcases List.mem_cons.mp hq with rfl | hq'
      · exact absurd (show q.1 ∈ G.map (·.1) from List.mem_map.mpr ⟨p, hp', e⟩) nd.1
      · exact one_fruit nd.2 hp' hq' e
/-- those ahead of a fruit make it ripe -/
theorem by_ripe (gn : (G.map (·.1)).Nodup) (hf : (f, ls) ∈ G) {a : List Str} (h : byG (pickG G lk) f = some a) : inOne ls a = true := by
  unfold byG at h
  split at h
  · rename_i fm
    cases h
    obtain ⟨p, hp, e, _, h2⟩ := ripe_mem ((pickN_ok G lk lk.length).1 _ _ (ixO_at fm).1)
    rw [one_fruit gn hp hf e] at h2
    exact h2
  · cases h
/-- those by which it was passed over don't -/
theorem nb_ripe (hG : ∀ p ∈ G, p.1 ∈ lk) (hf : (f, ls) ∈ G) {b : List Str} (h : notByG lk (pickG G lk) f = some b) : inOne ls b = false := by
  cases hb : inOne ls b with
  | false => rfl
  | true =>
    exfalso
    unfold notByG at h
    split at h
    · rename_i fm
      obtain ⟨k, ek, rfl⟩ := Option.map_eq_some_iff.mp h
      have km := List.mem_of_getLast? ek
      unfold worseG at km
      obtain ⟨⟨z, k'⟩, hz, rfl⟩ := List.mem_map.mp km
      obtain ⟨h1, h2⟩ := List.mem_filter.mp hz
      have e1 := List.mem_zipIdx_iff_getElem?.mp h1
      simp only [decide_eq_true_eq] at h2
      simp only at e1 hb
      have kl := (List.getElem?_eq_some_iff.mp e1).1
      unfold aheadG at e1 kl hb
      rw [List.length_take] at kl
      rw [List.take_take, Nat.min_eq_left (by omega)] at hb
      rw [List.getElem?_take, if_pos (by omega)] at e1
      have fn : f ∉ (pickG G lk).take k' := fun hm => by
        obtain ⟨j, jl, ej⟩ := List.mem_take_iff_getElem.mp hm
        exact (ixO_at fm).2 j (by omega) (by rw [← ej]; exact List.getElem?_eq_getElem _)
      have fr : f ∈ ripeG G ((pickG G lk).take k') := ripe_iff.mpr ⟨_, hf, rfl, fn, hb⟩
      rcases best_at hG e1 f fr with h | h
      · rw [h] at h2; omega
      · omega
    · rename_i fm
      cases h
      have fr : f ∈ ripeG G (pickG G lk) := ripe_iff.mpr ⟨_, hf, rfl, fm, hb⟩
      rw [(pick_row hG).2] at fr
      cases fr
/-- these are pickings of this orchard -/
def PsOf (G : Gr) (ps : List Nt) : Prop := ∀ p ∈ ps, p.1.Perm (G.map (·.1)) ∧ p.2 = pickG G p.1
theorem PsOf.in {ps : List Nt} (h : PsOf G ps) {p : Nt} (hp : p ∈ ps) : ∀ q ∈ G, q.1 ∈ p.1 := fun q hq => (h p hp).1.mem_iff.mpr (List.mem_map.mpr ⟨q, hq, rfl⟩)
theorem PsOf.nc {ps : List Nt} (gn : (G.map (·.1)).Nodup) (h : PsOf G ps) : noClash ps := by
  intro p hp q hq f hf
  obtain ⟨⟨f', ls⟩, hm, rfl⟩ := List.mem_map.mp ((h p hp).1.mem_iff.mp hf)
  simp only
  rw [(h p hp).2, (h q hq).2]
  cases e1 : byG (pickG G p.1) f' with
  | none => rfl
  | some a =>
    cases e2 : notByG q.1 (pickG G q.1) f' with
    | none => rfl
    | some b =>
      show inAll a b = false
      cases e3 : inAll a b with
      | false => rfl
      | true =>
        have h1 := inOne_mono (inAll_iff.mp e3) (by_ripe gn hm e1)
        rw [nb_ripe (h.in hq) hm e2] at h1
        cases h1
/-! ### what the law's own defs promise -/
end Rp

namespace Rp
theorem bit_add {m k : Nat} (h : m.testBit k = false) (i : Nat) : (2 ^ k + m).testBit i = (decide (i = k) || m.testBit i) := by
  have e : m = 2 ^ (k + 1) * (m / 2 ^ (k + 1)) + m % 2 ^ k := by
    have h1 := Nat.div_add_mod m (2 ^ (k + 1))
    have h2 : m % 2 ^ (k + 1) = m % 2 ^ k + 2 ^ k * (m / 2 ^ k % 2) := Nat.mod_pow_succ
    rw [Nat.testBit_eq_decide_div_mod_eq] at h
    have h3 : m / 2 ^ k % 2 = 0 := by have := of_decide_eq_false h; omega
    rw [h3] at h2
    omega
  have rl : m % 2 ^ k < 2 ^ k := Nat.mod_lt _ (Nat.two_pow_pos k)
  generalize m / 2 ^ (k + 1) = q at e
  generalize m % 2 ^ k = r at e rl
  subst e
  have l2 : 2 ^ k + r < 2 ^ (k + 1) := by rw [Nat.pow_succ]; omega
  have l1 : r < 2 ^ (k + 1) := by rw [Nat.pow_succ]; omega
  rw [show 2 ^ k + (2 ^ (k + 1) * q + r) = 2 ^ (k + 1) * q + (2 ^ k + r) by omega]
  rw [Nat.testBit_two_pow_mul_add _ l2, Nat.testBit_two_pow_mul_add _ l1]
  by_cases c : i < k + 1
  · rw [if_pos c, if_pos c]
    by_cases d : i = k
    · subst d
      rw [Nat.testBit_two_pow_add_eq, Nat.testBit_lt_two_pow rl]
      simp
    · rw [Nat.testBit_two_pow_add_gt (by omega)]
      simp [d]
  · rw [if_neg c, if_neg c]
    have : i ≠ k := by omega
    simp [this]
theorem and_within (a b : Nat) : a &&& b = a ↔ ∀ i, a.testBit i = true → b.testBit i = true := by
  constructor
  · intro h i hi
    have := congrArg (fun x => x.testBit i) h
    simp only [Nat.testBit_and] at this
    rw [hi] at this
    simpa using this
  · intro h
    apply Nat.eq_of_testBit_eq
    intro i
    rw [Nat.testBit_and]
    cases e : a.testBit i
    · rfl
    · rw [h i e]; rfl
section
variable {α : Type} [DecidableEq α]
/-- unlike things that are all among others: no more than these -/
theorem sub_few : ∀ {y z : List α}, y.Nodup → (∀ x ∈ y, x ∈ z) → y.length ≤ z.length
  | [], _, _, _ => Nat.zero_le _
  | a :: y, z, nd, h => by
    have nd' := List.nodup_cons.mp nd
    have ih := sub_few (y := y) (z := z.erase a) nd'.2 fun x hx => (List.mem_erase_of_ne (by rintro rfl; exact nd'.1 hx)).mpr (h x (List.mem_cons_of_mem _ hx))
    have := List.length_erase_of_mem (h a List.mem_cons_self)
    have : 0 < z.length := List.length_pos_of_mem (h a List.mem_cons_self)
    rw [List.length_cons]
    omega
/-- as many of them as there are others: all of these -/
theorem sub_all {y z : List α} (nd : y.Nodup) (h : ∀ x ∈ y, x ∈ z) (l : z.length ≤ y.length) : ∀ x ∈ z, x ∈ y := fun x hx => by
  by_cases c : x ∈ y
  · exact c
  · have := sub_few (y := x :: y) (z := z) (List.nodup_cons.mpr ⟨c, nd⟩) fun u hu => (List.mem_cons.mp hu).elim (fun e => e ▸ hx) (h u)
    rw [List.length_cons] at this
    omega
/-- the bits of some names -/
def maskN (ys z : List α) : Nat := (z.map fun x => 2 ^ ys.idxOf x).sum
theorem idx_inj {ys : List α} {a b : α} (ha : a ∈ ys) (e : ys.idxOf a = ys.idxOf b) : a = b := by
  have l := List.idxOf_lt_length_of_mem ha
  have h1 := List.getElem_idxOf l
  have l2 : ys.idxOf b < ys.length := e ▸ l
  have h2 := List.getElem_idxOf l2
  rw [← h1, ← h2]
  congr 1
theorem mask_bit {ys : List α} : ∀ {z : List α}, z.Nodup → (∀ x ∈ z, x ∈ ys) → ∀ i, (maskN ys z).testBit i = true ↔ ∃ x ∈ z, ys.idxOf x = i
  | [], _, _, i => by simp [maskN]
  | a :: z, nd, h, i => by
    have nd' := List.nodup_cons.mp nd
    have ih := mask_bit (ys := ys) nd'.2 fun x hx => h x (List.mem_cons_of_mem _ hx)
    have no : (maskN ys z).testBit (ys.idxOf a) = false := by
      rw [← Bool.not_eq_true, ih]
      rintro ⟨x, hx, e⟩
      exact nd'.1 (idx_inj (h x (List.mem_cons_of_mem _ hx)) e ▸ hx)
    have e0 : maskN ys (a :: z) = 2 ^ ys.idxOf a + maskN ys z := by simp [maskN]
    rw [e0, bit_add no, Bool.or_eq_true, decide_eq_true_eq, ih]
    constructor
    · rintro (rfl | ⟨x, hx, e⟩)
      · exact ⟨a, List.mem_cons_self, rfl⟩
      · exact ⟨x, List.mem_cons_of_mem _ hx, e⟩
    · rintro ⟨x, hx, e⟩
      rcases List.mem_cons.mp hx with rfl | hx
      · exact .inl e.symm
      · exact .inr ⟨x, hx, e⟩
theorem mask_in {ys y z : List α} (ny : y.Nodup) (nz : z.Nodup) (hy : ∀ x ∈ y, x ∈ ys) (hz : ∀ x ∈ z, x ∈ ys) : maskN ys y &&& maskN ys z = maskN ys y ↔ ∀ x ∈ y, x ∈ z := by
  rw [and_within]
  constructor
  · intro h x hx
    obtain ⟨u, hu, e⟩ := (mask_bit nz hz _).mp (h _ ((mask_bit ny hy _).mpr ⟨x, hx, rfl⟩))
    exact idx_inj (hz u hu) e ▸ hu
  · intro h i hi
    obtain ⟨x, hx, e⟩ := (mask_bit ny hy i).mp hi
    exact (mask_bit nz hz i).mpr ⟨x, h x hx, e⟩
theorem mask_small {ys : List α} {n : Nat} (l : ys.length ≤ n) {z : List α} (nd : z.Nodup) (h : ∀ x ∈ z, x ∈ ys) : maskN ys z < 2 ^ n := by
  refine Nat.lt_pow_two_of_testBit _ fun i hi => ?_
  rw [← Bool.not_eq_true, mask_bit nd h]
  rintro ⟨x, hx, e⟩
  have := List.idxOf_lt_length_of_mem (h x hx)
  omega
/-! ### the least of some -/
def isLeast (L : List (List α)) (z : List α) : Prop := z ∈ L ∧ ∀ y ∈ L, (∀ x ∈ y, x ∈ z) → y = z
/-- one that lies within it can't be made less -/
theorem least_in {L : List (List α)} (nd : ∀ z ∈ L, z.Nodup) (un : ∀ y ∈ L, ∀ z ∈ L, (∀ x ∈ y, x ∈ z) → (∀ x ∈ z, x ∈ y) → y = z) : ∀ (n : Nat) (z : List α), z.length ≤ n → z ∈ L → ∃ y, isLeast L y ∧ ∀ x ∈ y, x ∈ z := by
  intro n
  induction n with
  | zero =>
    intro z hz hL
    refine ⟨z, ⟨hL, fun y hy s => ?_⟩, fun x h => h⟩
    have := sub_few (nd y hy) s
    have e1 : y = [] := List.length_eq_zero_iff.mp (by omega)
    have e2 : z = [] := List.length_eq_zero_iff.mp (by omega)
    rw [e1, e2]
  | succ n ih =>
    intro z hz hL
    by_cases c : ∃ y ∈ L, (∀ x ∈ y, x ∈ z) ∧ y ≠ z
    · obtain ⟨y, hy, s, ne⟩ := c
      have lt : y.length < z.length := by
        have := sub_few (nd y hy) s
        by_cases d : z.length ≤ y.length
        · exact absurd (un y hy z hL s (sub_all (nd y hy) s d)) ne
        · omega
      obtain ⟨u, hu, su⟩ := ih y (by omega) hy
      exact ⟨u, hu, fun x hx => s x (su x hx)⟩
    · refine ⟨z, ⟨hL, fun y hy s => ?_⟩, fun x h => h⟩
      by_cases d : y = z
      · exact d
      · exact absurd ⟨y, hy, s, d⟩ c
/-- what was found of the first so many, the short ones ahead -/
structure LeastOf (L : List (List α)) (i : Nat) (M : List (List α)) : Prop where
  nd : M.Nodup
  mem : ∀ z, z ∈ M ↔ z ∈ L.take i ∧ isLeast L z
theorem LeastOf.zero (L : List (List α)) : LeastOf L 0 [] := ⟨.nil, fun z => by simp⟩
theorem take_more {β : Type} {L : List β} {i : Nat} {z : β} (h : L[i]? = some z) : L.take (i + 1) = L.take i ++ [z] := by rw [List.take_add_one, h]; rfl
theorem LeastOf.no {L M : List (List α)} {i : Nat} {z : List α} (I : LeastOf L i M) (h : L[i]? = some z) (s : ∃ y ∈ M, ∀ x ∈ y, x ∈ z) : LeastOf L (i + 1) M := by
  refine ⟨I.nd, fun u => ?_⟩
  rw [I.mem, take_more h, List.mem_append, List.mem_singleton]
  refine ⟨fun ⟨a, b⟩ => ⟨.inl a, b⟩, fun ⟨a, b⟩ => ⟨?_, b⟩⟩
  rcases a with a | rfl
  · exact a
  · obtain ⟨y, hy, s⟩ := s
    have h1 := (I.mem y).mp hy
    rw [← b.2 y h1.2.1 s]; exact h1.1
theorem LeastOf.yes {L M : List (List α)} {i : Nat} {z : List α} (nd : ∀ z ∈ L, z.Nodup) (un : ∀ y ∈ L, ∀ z ∈ L, (∀ x ∈ y, x ∈ z) → (∀ x ∈ z, x ∈ y) → y = z) (so : L.Pairwise fun a b => a.length ≤ b.length)
    (I : LeastOf L i M) (h : L[i]? = some z) (s : ¬ ∃ y ∈ M, ∀ x ∈ y, x ∈ z) : LeastOf L (i + 1) (M ++ [z]) := by
  have zL := List.mem_of_getElem? h
  have lz : isLeast L z := by
    refine ⟨zL, fun y hy sy => ?_⟩
    by_cases c : y = z
    · exact c
    · exfalso
      have lt : y.length < z.length := by
        have := sub_few (nd y hy) sy
        by_cases d : z.length ≤ y.length
        · exact absurd (un y hy z zL sy (sub_all (nd y hy) sy d)) c
        · omega
      obtain ⟨u, hu, su⟩ := least_in nd un y.length y (Nat.le_refl _) hy
      have lu := sub_few (nd u hu.1) su
      refine s ⟨u, (I.mem u).mpr ⟨?_, hu⟩, fun x hx => sy x (su x hx)⟩
      obtain ⟨j, hj⟩ := List.getElem?_of_mem hu.1
      have ji : j < i := by
        by_cases d : j < i
        · exact d
        · exfalso
          obtain ⟨hi, ei⟩ := List.getElem?_eq_some_iff.mp h
          obtain ⟨hj', ej⟩ := List.getElem?_eq_some_iff.mp hj
          by_cases e : i = j
          · subst e
            have : u = z := by rw [← ei, ← ej]
            rw [this] at lu; omega
          · have := List.pairwise_iff_getElem.mp so i j hi hj' (by omega)
            rw [ei, ej] at this
            omega
      exact List.mem_of_getElem? (by rw [List.getElem?_take_of_lt ji]; exact hj)
  have nz : z ∉ M := fun m => s ⟨z, m, fun x hx => hx⟩
  refine ⟨?_, fun u => ?_⟩
  · rw [List.nodup_append]
    exact ⟨I.nd, by simp, fun a ha b hb e => nz (by rw [← List.mem_singleton.mp hb, ← e]; exact ha)⟩
  · rw [List.mem_append, List.mem_singleton, I.mem, take_more h, List.mem_append, List.mem_singleton]
    constructor
    · rintro (⟨a, b⟩ | rfl)
      · exact ⟨.inl a, b⟩
      · exact ⟨.inr rfl, lz⟩
    · rintro ⟨a | rfl, b⟩
      · exact .inl ⟨a, b⟩
      · exact .inr rfl
end
end Rp

/-! sorted(xs, key=len) of tuples of texts. -/
namespace Rp
open PySem PySem.Spec PyProof.Rows L2
/-- sorted(e, key=len), e a list of tuples of texts -/
def tSortLen (K : PySem.W.Frag) (te : TE) : TE := fun σ H Q => te σ H fun x H1 => ∃ (a : Addr) (ks : List (Addr × List Str)), x = .ref a ∧ SqL K H1 a (ks.map fun p => V.ref p.1) ∧ (∀ p ∈ ks, SqT K H1 p.1 (p.2.map V.str)) ∧
  ∀ (M : List (Addr × List Str)) (q : Addr), M.Perm ks → (M.Pairwise fun p r => p.2.length ≤ r.2.length) → H1 q = none → Q (.ref q) (upd H1 q (.lst (M.map fun p => V.ref p.1)))
section
variable {X : Cx}
end
end Rp

/-! A set of texts: made anew, one more text, sorted. -/
namespace Rp
open PySem PySem.Spec PyProof.Rows L2 PySem.Froz
section
variable {P : Program} {w : World}
/-- the set at a holds the unlike texts l; it can be walked -/
def NameSet (P : Program) (w : World) (h : Heap) (a : Addr) (l : List Str) : Prop :=
  ∃ D : SD, h.get? a = some (sObj "set" D) ∧ TxOk P w D l ∧ l.Nodup ∧ Ris D.2.2.place.toList ∧ (w.params.followText "set-order" = true ∨ D.2.2.led = true)
theorem NameSet.kept {h h' : Heap} {a : Addr} {l : List Str} (R : NameSet P w h a l) (k : ∀ o, h.get? a = some o → h'.get? a = some o) : NameSet P w h' a l :=
  R.elim fun D z => ⟨D, k _ z.1, z.2⟩
theorem NameSet.bare {h : Heap} {a : Addr} (ho : h.get? a = some { cls := .type "set", dict := none, data := .set #[] 0 (.fresh 0 0 (!w.params.followText "set-order")) }) : NameSet P w h a [] := by
  refine ⟨(#[], 0, .fresh 0 0 (!w.params.followText "set-order")), ho, TxOk.nil (by rfl), .nil, List.Pairwise.nil, ?_⟩
  show _ ∨ (!w.params.followText "set-order") = true
  cases w.params.followText "set-order"
  · exact .inr rfl
  · exact .inl rfl
/-- one more text, or none where it is there -/
def withName (k : Str) (l : List Str) : List Str := if k ∈ l then l else k :: l
theorem withName_mem {k x : Str} {l : List Str} : x ∈ withName k l ↔ x = k ∨ x ∈ l := by
  unfold withName
  split
  · rename_i c
    exact ⟨.inr, fun h => h.elim (fun e => e ▸ c) id⟩
  · rw [List.mem_cons]
section
variable {A : Around} {E : Value → Shared → Prop} {s : Shared} {a : Addr} {l : List Str}
end
theorem perm_sub {α : Type} [DecidableEq α] : ∀ {y z : List α}, y.Nodup → (∀ x ∈ y, x ∈ z) → z.length ≤ y.length → y.Perm z
  | [], z, _, _, h => by
    have : z = [] := List.length_eq_zero_iff.mp (by simpa using h)
    rw [this]
  | a :: y, z, nd, sub, h => by
    have nd' := List.nodup_cons.mp nd
    have az := sub a List.mem_cons_self
    have le := List.length_erase_of_mem az
    have ih := perm_sub (y := y) (z := z.erase a) nd'.2 (fun x hx => (List.mem_erase_of_ne (by rintro rfl; exact nd'.1 hx)).mpr (sub x (List.mem_cons_of_mem _ hx))) (by rw [List.length_cons] at h; omega)
    exact (ih.cons a).trans (List.perm_cons_erase az).symm
section
variable {A : Around} {E : Value → Shared → Prop} {s : Shared} {a : Addr} {l : List Str}
end
end
end Rp

/-! {x for l in e for x in l}, the texts of some lists or tuples of texts. -/
namespace Rp
open PySem PySem.Spec PyProof.Rows L2 PySem.Froz
section
variable {x t0 i0 t1 i1 : Expr} {sc : Scope} {pos : Pos} {it acc : Value} {env : Env} {P : Program} {w : World} {A : Around} {R : Result → Shared → Prop} {s : Shared}
end
/-! ### the set as an object of the heap -/
def SetNO (P : Program) (w : World) (a : Addr) (l : List Str) : HO := .ext fun h => NameSet P w h a l
abbrev Sq (K : PySem.W.Frag) (H : Hp) (a : Addr) (xs : List V) : Prop := SqL K H a xs ∨ SqT K H a xs
theorem Sq.same {K : PySem.W.Frag} {H H' : Hp} {a : Addr} {xs : List V} (s : Same H H') (h : Sq K H a xs) : Sq K H' a xs := h.imp s.seq (Same.seqT s)
/-- the texts of the first so many -/
def fromOnes (ks : List (Addr × List Str)) (l : List Str) : Prop := ∀ x, x ∈ l ↔ ∃ p ∈ ks, x ∈ p.2
section
variable {X : Cx}
end
end Rp

/-! {x for l in e for x in l}: its value. -/
namespace Rp
open PySem PySem.Spec PyProof.Rows L2 PySem.Froz
section
variable {X : Cx}
/-- what has been met: all of the first i, and of the next one the first j -/
def metSo (ks : List (Addr × List Str)) (i j : Nat) (l : List Str) : Prop := ∀ x, x ∈ l ↔ (∃ p ∈ ks.take i, x ∈ p.2) ∨ ∃ p, ks[i]? = some p ∧ x ∈ p.2.take j
theorem metSo.next {ks : List (Addr × List Str)} {i j : Nat} {l : List Str} {p : Addr × List Str} {k : Str} (h : metSo ks i j l) (e : ks[i]? = some p) (f : p.2[j]? = some k) : metSo ks i (j + 1) (withName k l) := fun x => by
  rw [withName_mem, h x, e]
  have tk : p.2.take (j + 1) = p.2.take j ++ [k] := take_more f
  constructor
  · rintro (rfl | z | ⟨q, eq, z⟩)
    · exact .inr ⟨p, rfl, by rw [tk]; simp⟩
    · exact .inl z
    · cases eq; exact .inr ⟨p, rfl, by rw [tk]; exact List.mem_append_left _ z⟩
  · rintro (z | ⟨q, eq, z⟩)
    · exact .inr (.inl z)
    · cases eq
      rw [tk, List.mem_append, List.mem_singleton] at z
      exact z.elim (fun z => .inr (.inr ⟨_, rfl, z⟩)) .inl
theorem metSo.turn {ks : List (Addr × List Str)} {i : Nat} {l : List Str} {p : Addr × List Str} (h : metSo ks i p.2.length l) (e : ks[i]? = some p) : metSo ks (i + 1) 0 l := fun x => by
  rw [h x, e, take_more e]
  constructor
  · rintro (⟨q, hq, z⟩ | ⟨q, eq, z⟩)
    · exact .inl ⟨q, List.mem_append_left _ hq, z⟩
    · cases eq; exact .inl ⟨p, by simp, by rw [List.take_length] at z; exact z⟩
  · rintro (⟨q, hq, z⟩ | ⟨q, _, z⟩)
    · rcases List.mem_append.mp hq with hq | hq
      · exact .inl ⟨q, hq, z⟩
      · rw [List.mem_singleton.mp hq] at z; exact .inr ⟨p, rfl, by rw [List.take_length]; exact z⟩
    · simp at z
theorem metSo.pool {ks : List (Addr × List Str)} {i j : Nat} {l pool : List Str} (h : metSo ks i j l) (hp : ∀ p ∈ ks, ∀ x ∈ p.2, x ∈ pool) : ∀ x ∈ l, x ∈ pool := fun x hx => by
  rcases (h x).mp hx with ⟨p, hm, z⟩ | ⟨p, e, z⟩
  · exact hp p (List.mem_of_mem_take hm) x z
  · exact hp p (List.mem_of_getElem? e) x (List.mem_of_mem_take z)
end
end Rp

/-! Bits for texts: the set sorted, the dict, at both levels. -/
namespace Rp
open PySem PySem.Spec PyProof.Rows L2 PySem.Froz
/-- sorted(e), e a set of texts -/
def rSortNO (P : Program) (w : World) : List V → Hp → VK → Prop := fun vs H Q => ∃ (a : Addr) (l : List Str), vs = [.ref a] ∧ H a = some (SetNO P w a l) ∧ l.length < 64 ∧ ∀ (ys : List Str) (q : Addr), ys.Perm l → sortedS ys = true → H q = none → Q (.ref q) (upd H q (.lst (ys.map V.str)))
def rShl1 : V → V → Hp → VK → Prop := fun x y H Q => ∃ k : Nat, x = .int 1 ∧ y = .int (k : Int) ∧ k ≤ 134217727 ∧ Q (.int (2 ^ k)) H
section
variable {X : Cx}
end
/-- the bits of some names, as they stand in a row -/
def bitsM (ys : List Str) : List (Str × PyData) := ys.zipIdx.map fun p => (p.1, .int (2 ^ p.2))
def bitsV (ys : List Str) : List (Key × V) := ys.zipIdx.map fun p => (.inr p.1, .int (2 ^ p.2))
/-- what bits_of promises -/
def spBits (K : PySem.W.Frag) : Sp := fun vs H Q _ => ∃ (a : Addr) (ks : List (Addr × List Str)) (pool : List Str), vs = [.ref a] ∧ Sq K H a (ks.map fun p => V.ref p.1) ∧ (∀ p ∈ ks, Sq K H p.1 (p.2.map V.str)) ∧ pool.length < 64 ∧ (∀ p ∈ ks, ∀ x ∈ p.2, x ∈ pool) ∧
  ∀ H' q ys, Same H H' → H q = none → ys.Nodup → ys.length < 64 → fromOnes ks ys → H' q = some (.dK (bitsV ys)) → Q (.ref q) H'
section
variable {K : PySem.W.Frag}
theorem sq_of {F : Frm K} {hd : Addr → Prop} {H : Hp} {l : Lv} (B : Bs F hd H) {v : V} {d : PyData} {z : List Str} (h : Dz K (lvH F hd H l) v d) (i : Items d (z.map .str)) : ∃ a, v = .ref a ∧ Sq K H a (z.map V.str) := by
  have s : Same (lvH F hd H l) H := by cases l <;> first | exact ((vis_rd B).trans rd_nt).trans nt_in | exact rd_nt.trans nt_in
  rcases i with rfl | rfl
  · cases h with
    | lst hs ha => rw [strs_of ha] at hs; exact ⟨_, rfl, .inl (s.seq hs.sq)⟩
  · cases h with
    | tup hs _ ha => rw [strs_of ha] at hs; exact ⟨_, rfl, .inr (Same.seqT s hs)⟩
theorem lots_ks {F : Frm K} {hd : Addr → Prop} {H : Hp} {l : Lv} (B : Bs F hd H) : ∀ {vs : List V} {ds : List PyData} {zss : List (List Str)}, DzAll K (lvH F hd H l) vs ds → Al (fun d z => Items d (z.map .str)) ds zss →
    ∃ ks : List (Addr × List Str), vs = (ks.map fun p => V.ref p.1) ∧ ks.map (·.2) = zss ∧ ∀ p ∈ ks, Sq K H p.1 (p.2.map V.str)
  | _, _, _, .nil, .nil => ⟨[], rfl, rfl, by simp⟩
  | _, _, z :: _, .cons h t, .cons i al => by
    obtain ⟨ks, e1, e2, e3⟩ := lots_ks B t al
    obtain ⟨a, rfl, hq⟩ := sq_of B h i
    refine ⟨(a, z) :: ks, by rw [e1]; rfl, by rw [← e2]; rfl, fun p hp => ?_⟩
    rcases List.mem_cons.mp hp with rfl | hp
    · exact hq
    · exact e3 p hp
def isLot (d : PyData) (z : List Str) : Prop := Items d (z.map .str)
def ofOnes (zss : List (List Str)) (ys : List Str) : Prop := ∀ x, x ∈ ys ↔ ∃ z ∈ zss, x ∈ z
variable {E : XK}
def mBits (w : TRd) : TDm := fun X δ Q => w X δ fun _ x δ1 => ∃ (ds : List PyData) (zss : List (List Str)) (pool : List Str), Items x ds ∧ Al isLot ds zss ∧ pool.length < 64 ∧ (∀ z ∈ zss, ∀ x ∈ z, x ∈ pool) ∧ ∀ ys : List Str, ys.Nodup → ys.length < 64 → ofOnes zss ys → Q (bitsM ys) δ1
theorem bits_at {H : Hp} (ys : List Str) : MapAt K H (bitsV ys) (mpK (bitsM ys)) := by
  unfold bitsV bitsM mpK
  refine ⟨by simp, ?_⟩
  generalize ys.zipIdx = l
  induction l with
  | nil => exact .nil
  | cons p l ih => exact .cons (.int _) ih
instance {t : TE} {w : TRd} [p : PuR K E t w] : PuM K E (tCall (spBits K) [] E0 (tCons t tNil)) (mBits w) where
  mono h := p.mono fun _ _ _ ⟨ds, zss, pool, a, b, c, d, q⟩ => ⟨ds, zss, pool, a, b, c, d, fun ys n l o => h _ _ (q ys n l o)⟩
  run {F hd σ H δ Q} hE r q := un1 (t := t) hE r q fun l x δ1 v hd1 H1 k1 r1 d1 ⟨ds, zss, pool, ix, al, lp, inp, q⟩ => by
    obtain ⟨a, vs, rfl, hs, ha⟩ := d1.seq r1.bs ix
    obtain ⟨ks, rfl, rfl, hk⟩ := lots_ks (l := l) r1.bs ha al
    show spBits K [.ref a] H1 Q E0
    refine ⟨a, ks, pool, rfl, hs.imp (fun h => nt_in.seq h.2) (fun h => Same.seqT nt_in h.2), hk, lp, fun p hp => inp p.2 (List.mem_map.mpr ⟨p, hp, rfl⟩), fun H' q' ys sH nq nd ly fo eq => ?_⟩
    have fo' : ofOnes (ks.map (·.2)) ys := fun x => (fo x).trans ⟨fun ⟨p, hp, z⟩ => ⟨p.2, List.mem_map.mpr ⟨p, hp, rfl⟩, z⟩, fun ⟨z, hz, e⟩ => by
      obtain ⟨p, hp, rfl⟩ := List.mem_map.mp hz
      exact ⟨p, hp, e⟩⟩
    have fr := r1.fresh nq
    exact q ys nd ly fo' _ _ _ (k1.trans (.of_same sH)) (r1.same sH) ⟨q', _, rfl, by rw [vis_new fr.1 fr.2.1]; exact eq, bits_at ys⟩
/-- name = bits_of(e) -/
instance (priority := 1100) {t : TE} {i : Nat} {w : TDm} [p : PuM K E (tCall (spBits K) [] E0 (tCons t tNil)) w] : PuS K E (tAsg (tCall (spBits K) [] E0 (tCons t tNil)) (gName i)) (sMap w i) where
  mono h := p.mono fun _ _ q => h.nx _ q
  run {F hd σ H δ P D} hE r e q := p.run hE r (p.mono (fun m δ1 q v hd1 H1 k1 r1 d1 => e.nx _ _ _ _ k1.go (r1.setObj d1) q) q)
/-! ### the short ones ahead -/
theorem tx_ks {F : Frm K} {hd : Addr → Prop} {H : Hp} (B : Bs F hd H) : ∀ {vs : List V} {zss : List (List Str)}, DzAll K (vis F hd H) vs (zss.map txD) →
    ∃ ks : List (Addr × List Str), vs = (ks.map fun p => V.ref p.1) ∧ ks.map (·.2) = zss ∧ (∀ p ∈ ks, SqT K H p.1 (p.2.map V.str)) ∧ ∀ p ∈ ks, Dz K (vis F hd H) (.ref p.1) (txD p.2)
  | _, [], .nil => ⟨[], rfl, rfl, by simp, by simp⟩
  | _, z :: _, .cons h t => by
    obtain ⟨ks, e1, e2, e3, e4⟩ := tx_ks B t
    have s : Same (vis F hd H) H := ((vis_rd B).trans rd_nt).trans nt_in
    cases h with
    | @tup a vs _ hs nD ha =>
      have es := strs_of ha
      subst es
      refine ⟨(a, z) :: ks, by rw [e1]; rfl, by rw [← e2]; rfl, fun p hp => ?_, fun p hp => ?_⟩
      · rcases List.mem_cons.mp hp with rfl | hp
        · exact Same.seqT s hs
        · exact e3 p hp
      · rcases List.mem_cons.mp hp with rfl | hp
        · exact .tup hs nD ha
        · exact e4 p hp
theorem ks_tx {H : Hp} : ∀ {ks : List (Addr × List Str)}, (∀ p ∈ ks, Dz K H (.ref p.1) (txD p.2)) → DzAll K H (ks.map fun p => V.ref p.1) ((ks.map (·.2)).map txD)
  | [], _ => .nil
  | p :: ks, h => .cons (h p List.mem_cons_self) (ks_tx fun q hq => h q (List.mem_cons_of_mem _ hq))
def dSortLen (w : TRd) : TD := fun X δ Q => w X δ fun l x δ1 => ∃ zss : List (List Str), x = .list (zss.map txD) ∧ l.ch = .V ∧ ∀ M : List (List Str), M.Perm zss → (M.Pairwise fun a b => a.length ≤ b.length) → Q (.list (M.map txD)) δ1
instance {t : TE} {w : TRd} [p : PuR K E t w] : PuE K E (tSortLen K t) (dSortLen w) where
  mono h := p.mono fun _ _ _ ⟨zss, a, b, q⟩ => ⟨zss, a, b, fun M x y => h _ _ (q M x y)⟩
  run {F hd σ H δ Q} hE r q := un1 (t := t) hE r q fun l x δ1 v hd1 H1 k1 r1 d1 ⟨zss, ex, lc, q⟩ => by
    subst ex
    obtain ⟨a, vs, rfl, hs, ha⟩ := d1.seq r1.bs (.inl rfl)
    obtain ⟨ks, rfl, rfl, h1, h2⟩ := tx_ks r1.bs (DzAll.upU ha (.inl lc))
    rcases hs with hs | hs
    · refine ⟨a, ks, rfl, nt_in.seq hs.2, h1, fun M q' pm so nq => ?_⟩
      exact newLst r1 nq (ks_tx fun p hp => h2 p (pm.mem_iff.mp hp)) ((q (M.map (·.2)) (pm.map _) (List.pairwise_map.mpr so)).kp k1)
    · cases hs.1
end
end Rp

/-! The least of some lots, orchards hung anew: what is promised. -/
namespace Rp
open PySem PySem.Spec PyProof.Rows L2 TL RZ
/-! ### the order of data -/
abbrev leD (x y : PyData) : Prop := PySem.W.dataLe false (fun d : PyData => d) x y = true
theorem leD_not {x y : PyData} (h : leD x y) : PySem.W.dataLt y x = false := by
  have h : (!PySem.W.dataLt y x) = true := h
  simpa using h
theorem toks_one : ∀ {a b : List Str}, PySem.W.keyToksAll (a.map .str) = PySem.W.keyToksAll (b.map .str) → a = b
  | [], [], _ => rfl
  | [], y :: b, h => by simp [PySem.W.keyToksAll] at h
  | x :: a, [], h => by simp [PySem.W.keyToksAll] at h
  | x :: a, y :: b, h => by
    simp only [List.map_cons, PySem.W.keyToksAll, PySem.W.keyToks, List.cons_append, List.nil_append, List.cons.injEq, true_and] at h
    rw [PySem.W.str_of_cps (Sum.inr.inj h.1), toks_one h.2]
theorem tx_anti {a b : List Str} (h1 : leD (txD a) (txD b)) (h2 : leD (txD b) (txD a)) : a = b := by
  have e := KeyOrd.total (listOrd itemOrd) (PySem.W.keyToks (txD a)) (PySem.W.keyToks (txD b)) (leD_not h2) (leD_not h1)
  simp only [txD, PySem.W.keyToks] at e
  exact toks_one e
theorem srtD_rise (ps : List (V × PyData)) : (srtD ps).Pairwise fun p q => leD p.2 q.2 :=
  PySem.W.sort_pairwise (PySem.W.sortLe_total (α := V × PyData) (listOrd itemOrd) false fun p => PySem.W.keyToks p.2) ps
theorem srtD_map (ps : List (V × PyData)) : ((srtD ps).map (·.2)).Pairwise leD := List.pairwise_map.mpr (srtD_rise ps)
theorem srtD_pm (ps : List (V × PyData)) : ((srtD ps).map (·.2)).Perm (ps.map (·.2)) := (List.mergeSort_perm _ _).map _
/-! ### the least of some lots, as they rise -/
structure LeastRow (ls M : List (List Str)) : Prop where
  rise : M.Pairwise fun a b => leD (txD a) (txD b)
  nd : M.Nodup
  mem : ∀ z, z ∈ M ↔ sortedS z = true ∧ ∃ y ∈ ls, z.Perm y ∧ ∀ u ∈ ls, (∀ x ∈ u, x ∈ y) → ∀ x ∈ y, x ∈ u
theorem perm_mem {α : Type} [DecidableEq α] {y z : List α} (ny : y.Nodup) (nz : z.Nodup) (h : ∀ x, x ∈ y ↔ x ∈ z) : y.Perm z :=
  perm_sub ny (fun x hx => (h x).mp hx) (sub_few nz fun x hx => (h x).mpr hx)
theorem LeastRow.one {ls ls' M M' : List (List Str)} (h : LeastRow ls M) (h' : LeastRow ls' M') (e : ∀ z, z ∈ M ↔ z ∈ M') : M = M' :=
  eq_of_rising (R := fun a b => leD (txD a) (txD b)) (fun _ _ => tx_anti) h.rise h'.rise (perm_mem h.nd h'.nd e)
/-- the same lots, but for their names' order -/
def likeL (ls ls' : List (List Str)) : Prop := (∀ y ∈ ls, ∃ y' ∈ ls', y.Perm y') ∧ ∀ y' ∈ ls', ∃ y ∈ ls, y.Perm y'
theorem LeastRow.like {ls ls' M : List (List Str)} (l : likeL ls ls') (h : LeastRow ls' M) : LeastRow ls M := by
  refine ⟨h.rise, h.nd, fun z => ?_⟩
  rw [h.mem]
  constructor
  · rintro ⟨s, y', hy', p, m⟩
    obtain ⟨y, hy, q⟩ := l.2 y' hy'
    refine ⟨s, y, hy, p.trans q.symm, fun u hu sub x hx => ?_⟩
    obtain ⟨u', hu', r⟩ := l.1 u hu
    exact r.mem_iff.mpr (m u' hu' (fun x hx => q.mem_iff.mp (sub x (r.mem_iff.mpr hx))) x (q.mem_iff.mp hx))
  · rintro ⟨s, y, hy, p, m⟩
    obtain ⟨y', hy', q⟩ := l.1 y hy
    refine ⟨s, y', hy', p.trans q, fun u' hu' sub x hx => ?_⟩
    obtain ⟨u, hu, r⟩ := l.2 u' hu'
    exact r.mem_iff.mp (m u hu (fun x hx => q.mem_iff.mpr (sub x (r.mem_iff.mp hx))) x (q.mem_iff.mpr hx))
theorem ex_least {ls : List (List Str)} (nd : ∀ z ∈ ls, z.Nodup) : ∀ (n : Nat) (y : List Str), y.length ≤ n → y ∈ ls → ∃ u ∈ ls, (∀ x ∈ u, x ∈ y) ∧ ∀ v ∈ ls, (∀ x ∈ v, x ∈ u) → ∀ x ∈ u, x ∈ v := by
  intro n
  induction n with
  | zero =>
    intro y ly hy
    have : y = [] := List.length_eq_zero_iff.mp (by omega)
    subst this
    exact ⟨[], hy, by simp, by simp⟩
  | succ n ih =>
    intro y ly hy
    by_cases c : ∃ v ∈ ls, (∀ x ∈ v, x ∈ y) ∧ ¬ ∀ x ∈ y, x ∈ v
    · obtain ⟨v, hv, s, no⟩ := c
      have lt : v.length < y.length := by
        have := sub_few (nd v hv) s
        by_cases d : y.length ≤ v.length
        · exact absurd (sub_all (nd v hv) s d) no
        · omega
      obtain ⟨u, hu, su, m⟩ := ih v (by omega) hv
      exact ⟨u, hu, fun x hx => s x (su x hx), m⟩
    · refine ⟨y, hy, fun x h => h, fun v hv s => ?_⟩
      by_cases d : ∀ x ∈ y, x ∈ v
      · exact d
      · exact absurd ⟨v, hv, s, d⟩ c
instance (a b : Str) : Decidable (leS a b) := inferInstanceAs (Decidable (a.cps.toList ≤ b.cps.toList))
theorem ex_srt (y : List Str) : ∃ z : List Str, z.Perm y ∧ sortedS z = true := by
  refine ⟨y.mergeSort fun a b => decide (leS a b), List.mergeSort_perm _ _, ?_⟩
  have h := List.pairwise_mergeSort (le := fun a b => decide (leS a b)) (l := y) (fun a b c h1 h2 => decide_eq_true (List.le_trans (of_decide_eq_true h1) (of_decide_eq_true h2))) (fun a b => by
    rcases List.le_total a.cps.toList b.cps.toList with h | h
    · rw [Bool.or_eq_true]; exact .inl (decide_eq_true h)
    · rw [Bool.or_eq_true]; exact .inr (decide_eq_true h))
  generalize y.mergeSort (fun a b => decide (leS a b)) = z at h
  cases z with
  | nil => rfl
  | cons a r =>
    show risingS a r = true
    induction r generalizing a with
    | nil => rfl
    | cons b r ih =>
      unfold risingS
      have h' := List.pairwise_cons.mp h
      rw [Bool.and_eq_true]
      refine ⟨?_, ih b h'.2⟩
      rw [ltCps_eq]
      have := of_decide_eq_true (h'.1 b List.mem_cons_self)
      simp only [Bool.not_eq_true', decide_eq_false_iff_not]
      exact List.not_lt.mpr this
theorem LeastRow.ex {ls M : List (List Str)} (h : LeastRow ls M) (nd : ∀ z ∈ ls, z.Nodup) {y : List Str} (hy : y ∈ ls) : ∃ z ∈ M, ∀ x ∈ z, x ∈ y := by
  obtain ⟨u, hu, s, m⟩ := ex_least nd y.length y (Nat.le_refl _) hy
  obtain ⟨z, p, so⟩ := ex_srt u
  exact ⟨z, (h.mem z).mpr ⟨so, u, hu, p, m⟩, fun x hx => s x (p.mem_iff.mp hx)⟩
theorem LeastRow.from_ {ls M : List (List Str)} (h : LeastRow ls M) {z : List Str} (hz : z ∈ M) : ∃ y ∈ ls, z.Perm y := by
  obtain ⟨_, y, hy, p, _⟩ := (h.mem z).mp hz
  exact ⟨y, hy, p⟩
theorem LeastRow.inOne {ls M : List (List Str)} (h : LeastRow ls M) (nd : ∀ z ∈ ls, z.Nodup) (o : List Str) : Rp.inOne M o = Rp.inOne ls o := by
  rw [Bool.eq_iff_iff, inOne_iff, inOne_iff]
  constructor
  · rintro ⟨z, hz, s⟩
    obtain ⟨y, hy, p⟩ := h.from_ hz
    exact ⟨y, hy, fun x hx => s x (p.mem_iff.mpr hx)⟩
  · rintro ⟨y, hy, s⟩
    obtain ⟨z, hz, t⟩ := h.ex nd hy
    exact ⟨z, hz, fun x hx => s x (t x hx)⟩
/-- fewer lots, the least ones still among them: the same least ones -/
theorem LeastRow.fewer {T U M N : List (List Str)} (hM : LeastRow T M) (hN : LeastRow U N) (nU : ∀ z ∈ U, z.Nodup) (tu : ∀ t ∈ T, ∃ u ∈ U, u.Perm t) (ut : ∀ u ∈ U, ∃ t ∈ T, ∀ x ∈ t, x ∈ u) : M = N := by
  refine hM.one hN fun z => ?_
  rw [hM.mem, hN.mem]
  constructor
  · rintro ⟨s, t, ht, p, m⟩
    obtain ⟨u, hu, q⟩ := tu t ht
    refine ⟨s, u, hu, p.trans q.symm, fun v hv sub x hx => ?_⟩
    obtain ⟨t', ht', s'⟩ := ut v hv
    exact s' x (m t' ht' (fun y hy => q.mem_iff.mp (sub y (s' y hy))) x (q.mem_iff.mp hx))
  · rintro ⟨s, u, hu, p, m⟩
    obtain ⟨t, ht, st⟩ := ut u hu
    obtain ⟨u', hu', q⟩ := tu t ht
    have back := m u' hu' fun y hy => st y (q.mem_iff.mp hy)
    have pt : u.Perm t := by
      have n1 := nU u hu
      have n2 : t.Nodup := q.nodup_iff.mp (nU u' hu')
      exact perm_mem n1 n2 fun x => ⟨fun hx => q.mem_iff.mp (back x hx), st x⟩
    refine ⟨s, t, ht, p.trans pt, fun v hv sub x hx => ?_⟩
    obtain ⟨w, hw, r⟩ := tu v hv
    exact r.mem_iff.mp (m w hw (fun y hy => pt.mem_iff.mpr (sub y (r.mem_iff.mp hy))) x (pt.mem_iff.mpr hx))
end Rp

/-! Orchards hung anew; what is left when some are gone. -/
namespace Rp
open PySem PySem.Spec PyProof.Rows L2 TL RZ
def okLots (ls : List (List Str)) : Prop := ls.length ≤ 1000 ∧ ∃ pool : List Str, pool.length < 64 ∧ ∀ z ∈ ls, z.Nodup ∧ ∀ x ∈ z, x ∈ pool
theorem okLots.nd {ls : List (List Str)} (h : okLots ls) : ∀ z ∈ ls, z.Nodup := fun z hz => by obtain ⟨_, pool, _, h⟩ := h; exact (h z hz).1
theorem okLots.few {ls : List (List Str)} (h : okLots ls) : ∀ z ∈ ls, z.length < 64 := fun z hz => by
  obtain ⟨_, pool, lp, h⟩ := h
  exact Nat.lt_of_le_of_lt (sub_few (h z hz).1 (h z hz).2) lp
structure HungOf (R G : Gr) : Prop where
  names : (G.map (·.1)).Perm (R.map (·.1))
  rise : (G.map (·.1)).Pairwise leS
  lots : ∀ p ∈ G, ∃ r ∈ R, r.1 = p.1 ∧ LeastRow r.2 p.2 ∧ p.2.length ≤ r.2.length
theorem leS_anti {a b : Str} (h1 : leS a b) (h2 : leS b a) : a = b := by
  have e : a.cps.toList = b.cps.toList := List.le_antisymm h1 h2
  exact PySem.W.str_of_cps e
theorem HungOf.one {R R' G G' : Gr} (h : HungOf R G) (h' : HungOf R' G') (nd : (R.map (·.1)).Nodup) (nd' : (R'.map (·.1)).Nodup) (e : ∀ f, f ∈ R.map (·.1) ↔ f ∈ R'.map (·.1))
    (l : ∀ p ∈ G, ∀ q ∈ G', p.1 = q.1 → p.2 = q.2) : G = G' := by
  have en : G.map (·.1) = G'.map (·.1) := by
    refine eq_of_rising (R := leS) (fun _ _ => leS_anti) h.rise h'.rise (perm_mem (h.names.nodup_iff.mpr nd) (h'.names.nodup_iff.mpr nd') fun x => ?_)
    rw [h.names.mem_iff, h'.names.mem_iff, e]
  have len : G.length = G'.length := by have := congrArg List.length en; simpa using this
  refine List.ext_getElem len fun i h1 h2 => ?_
  have e1 : (G[i]).1 = (G'[i]).1 := by
    have := congrArg (fun l => l[i]?) en
    simp only [List.getElem?_map, List.getElem?_eq_getElem h1, List.getElem?_eq_getElem h2, Option.map_some, Option.some.injEq] at this
    exact this
  exact Prod.ext e1 (l _ (List.getElem_mem h1) _ (List.getElem_mem h2) e1)
/-- the rows of those that are left -/
def goneR (G : Gr) (off : List Str) : Gr := (G.filter fun p => !decide (p.1 ∈ off)).map fun p => (p.1, p.2.map fun z => z.filter fun x => !decide (x ∈ off))
theorem goneR_mem {G : Gr} {off : List Str} {r : Str × List (List Str)} : r ∈ goneR G off ↔ ∃ p ∈ G, p.1 ∉ off ∧ r = (p.1, p.2.map fun z => z.filter fun x => !decide (x ∈ off)) := by
  unfold goneR
  rw [List.mem_map]
  constructor
  · rintro ⟨p, hp, rfl⟩
    rw [List.mem_filter] at hp
    exact ⟨p, hp.1, by simpa using hp.2, rfl⟩
  · rintro ⟨p, hp, n, rfl⟩
    exact ⟨p, List.mem_filter.mpr ⟨hp, by simpa using n⟩, rfl⟩
theorem goneR_names {G : Gr} {off : List Str} : (goneR G off).map (·.1) = (G.map (·.1)).filter fun f => !decide (f ∈ off) := by
  unfold goneR
  rw [List.map_map, List.filter_map]
  rfl
/-- an orchard whose lots are well -/
def okH (G : Gr) : Prop := (G.map (·.1)).Nodup ∧ G.length ≤ 1000 ∧ ∀ p ∈ G, okLots p.2
theorem okLots.gone {ls : List (List Str)} (h : okLots ls) (off : List Str) : okLots (ls.map fun z => z.filter fun x => !decide (x ∈ off)) := by
  obtain ⟨l, pool, lp, h⟩ := h
  refine ⟨by rw [List.length_map]; exact l, pool, lp, fun z hz => ?_⟩
  obtain ⟨y, hy, rfl⟩ := List.mem_map.mp hz
  exact ⟨(h y hy).1.filter _, fun x hx => (h y hy).2 x (List.mem_filter.mp hx).1⟩
theorem okH.gone {G : Gr} (h : okH G) (off : List Str) : okH (goneR G off) := by
  refine ⟨by rw [goneR_names]; exact h.1.filter _, ?_, fun r hr => ?_⟩
  · have : (goneR G off).length = ((G.map (·.1)).filter fun f => !decide (f ∈ off)).length := by rw [← goneR_names, List.length_map]
    rw [this]
    have := List.length_filter_le (fun f => !decide (f ∈ off)) (G.map (·.1))
    rw [List.length_map] at this
    exact Nat.le_trans this h.2.1
  · obtain ⟨p, hp, _, rfl⟩ := goneR_mem.mp hr
    exact (h.2.2 p hp).gone off
theorem okLots.least {ls M : List (List Str)} (h : okLots ls) (hM : LeastRow ls M) (l : M.length ≤ ls.length) : okLots M := by
  obtain ⟨n, pool, lp, h⟩ := h
  refine ⟨by omega, pool, lp, fun z hz => ?_⟩
  obtain ⟨y, hy, p⟩ := hM.from_ hz
  exact ⟨p.nodup_iff.mpr (h y hy).1, fun x hx => (h y hy).2 x (p.mem_iff.mp hx)⟩
theorem HungOf.ok {R G : Gr} (h : HungOf R G) (ok : okH R) : okH G := by
  refine ⟨h.names.nodup_iff.mpr ok.1, ?_, fun p hp => ?_⟩
  · have := h.names.length_eq
    rw [List.length_map, List.length_map] at this
    have := ok.2.1
    omega
  · obtain ⟨r, hr, _, m, l⟩ := h.lots p hp
    exact (ok.2.2 r hr).least m l
theorem okH.okGr {G : Gr} (h : okH G) : okGr G := ⟨h.2.1, fun p hp => ⟨(h.2.2 p hp).1, fun z hz => by have := (h.2.2 p hp).few z hz; omega⟩⟩
/-! ### picked on -/
/-! ### who comes -/
/-! ### promises -/
theorem Grew.okH {zs : List Str} {G : Gr} (h : Grew zs G) (nd : zs.Nodup) (l : zs.length ≤ 26) : okH G := by
  refine ⟨h.pm.nodup_iff.mpr nd, by have := h.pm.length_eq; rw [List.length_map] at this; omega, fun p hp => ?_⟩
  obtain ⟨h1, h2⟩ := h.lots p hp
  exact ⟨by omega, zs, by omega, fun z hz => ⟨(h2 z hz).2.1, fun x hx => ((h2 z hz).2.2 x hx).1⟩⟩
end Rp

/-! {name: 1 << at for at, name in enumerate(names)} -/
namespace Rp
open PySem PySem.Spec PyProof.Rows L2
end Rp

/-! least_lots: its masks, its result. -/
namespace Rp
open PySem PySem.Spec PyProof.Rows L2 TL RZ
/-- sorted(least): as they rise -/
theorem srt_back {ps : List (V × PyData)} {M : List (List Str)} (e : ps.map (·.2) = M.map txD) : ∃ M' : List (List Str), (srtD ps).map (·.2) = M'.map txD ∧ M'.Perm M ∧ M'.Pairwise fun a b => leD (txD a) (txD b) := by
  have pm := srtD_pm ps
  rw [e] at pm
  obtain ⟨M', e1, p⟩ := perm_unmap (f := txD) pm M rfl
  refine ⟨M', e1, p, ?_⟩
  have := srtD_map ps
  rw [e1] at this
  exact List.pairwise_map.mp this
theorem txs_alike (M : List (List Str)) : PySem.W.AllAlike (M.map txD) := fun x hx y hy => by
  obtain ⟨a, _, rfl⟩ := List.mem_map.mp hx
  obtain ⟨b, _, rfl⟩ := List.mem_map.mp hy
  simp only [PySem.W.alike]
  exact alike_strs a b
theorem tx_depth (z : List Str) : (txD z).depth ≤ 30 := by
  simp only [PyData.depth, depth_strs]
  decide
end Rp

/-! Orchards as data that can be held against one another. -/
namespace Rp
open PySem PySem.Spec PyProof.Rows L2 TL RZ
def okS (G : Gr) : Prop := ∀ p ∈ G, PyData.strOk p.1 = true ∧ ∀ z ∈ p.2, okT z
theorem okS.gone {G : Gr} (h : okS G) (off : List Str) : okS (goneR G off) := fun r hr => by
  obtain ⟨p, hp, _, rfl⟩ := goneR_mem.mp hr
  refine ⟨(h p hp).1, fun z hz x hx => ?_⟩
  obtain ⟨y, hy, rfl⟩ := List.mem_map.mp hz
  exact (h p hp).2 y hy x (List.mem_filter.mp hx).1
theorem HungOf.okS {R G : Gr} (h : HungOf R G) (ok : okS R) : okS G := fun p hp => by
  obtain ⟨r, hr, e, m, _⟩ := h.lots p hp
  refine ⟨e ▸ (ok r hr).1, fun z hz x hx => ?_⟩
  obtain ⟨y, hy, pm⟩ := m.from_ hz
  exact (ok r hr).2 y hy x (pm.mem_iff.mp hx)
theorem Grew.okS {zs : List Str} {G : Gr} (h : Grew zs G) (nm : ∀ z ∈ zs, IsName z) : okS G := fun p hp =>
  ⟨name_ok (nm p.1 (h.pm.mem_iff.mp (List.mem_map.mpr ⟨p, hp, rfl⟩))), fun z hz x hx => name_ok (nm x (((h.lots p hp).2 z hz).2.2 x hx).1)⟩
end Rp

/-! Names: texts held against one another, sign by sign. -/
namespace Rp
open PySem PySem.Spec PyProof.Rows L2 TL RZ
def rLtS : R2 := fun x y H Q => ∃ i j : Str, x = .str i ∧ y = .str j ∧ Q (.bl (decide (i.cps.toList < j.cps.toList))) H
def rLeS : R2 := fun x y H Q => ∃ i j : Str, x = .str i ∧ y = .str j ∧ Q (.bl (!decide (j.cps.toList < i.cps.toList))) H
section
variable {K : PySem.W.Frag} {E : XK}
def fLtS : PyData → PyData → (PyData → Prop) → Prop := fun x y Q => ∃ i j : Str, x = .str i ∧ y = .str j ∧ Q (.bool (decide (i.cps.toList < j.cps.toList)))
instance {ta tb : TE} {wa wb : TRd} [pa : PuR K E ta wa] [pb : PuR K E tb wb] : PuE K E (tOp rLtS ta tb) (dOp fLtS wa wb) where
  mono h := pa.mono fun _ _ _ => pb.mono fun _ _ _ ⟨i, j, e1, e2, q⟩ => ⟨i, j, e1, e2, h _ _ q⟩
  run hE r q := bin2 hE r q fun l x m y δ2 v u hd2 H2 k r2 d1 d2 ⟨i, j, e1, e2, q⟩ => ⟨i, j, by subst e1; exact d1.str r2.bs, by subst e2; exact d2.str r2.bs, q _ _ _ k r2 (.bl _)⟩
/-- a <= b <= c, of ints, of texts -/
def dChainI (g1 g2 : Int → Int → Bool) (wa wb wc : TRd) : TD := fun X δ Q => wa X δ fun _ x δ1 => wb X δ1 fun _ y δ2 => ∃ i j : Int, x = .int i ∧ y = .int j ∧ if g1 i j = true then wc X δ2 fun _ z δ3 => ∃ k : Int, z = .int k ∧ Q (.bool (g2 j k)) δ3 else Q (.bool false) δ2
instance {g1 g2 : Int → Int → Bool} {ta tb tc : TE} {wa wb wc : TRd} [pa : PuR K E ta wa] [pb : PuR K E tb wb] [pc : PuR K E tc wc] : PuE K E (tChain (rI0 fun i j => .bl (g1 i j)) (rI0 fun i j => .bl (g2 i j)) ta tb tc) (dChainI g1 g2 wa wb wc) where
  mono h := pa.mono fun _ _ _ => pb.mono fun _ _ _ ⟨i, j, e1, e2, q⟩ => ⟨i, j, e1, e2, by
    split
    · rename_i c; rw [if_pos c] at q; exact pc.mono (fun _ _ _ ⟨k, e, q⟩ => ⟨k, e, h _ _ q⟩) q
    · rename_i c; rw [if_neg c] at q; exact h _ _ q⟩
  run {F hd σ H δ Q} hE r q := bin2 (ta := ta) (tb := tb) hE r q fun l x m y δ2 v u hd2 H2 k r2 d1 d2 ⟨i, j, e1, e2, q⟩ => by
    subst e1; subst e2
    refine ⟨i, j, d1.int r2.bs, d2.int r2.bs, g1 i j, rfl, ?_⟩
    have eu := d2.int r2.bs
    cases c : g1 i j with
    | true =>
      rw [c, if_pos rfl] at q
      rw [if_pos rfl]
      exact pc.run hE r2 (pc.mono (fun l z δ3 ⟨n, e, q⟩ v3 hd3 H3 k3 r3 d3 => ⟨j, n, eu, by subst e; exact d3.int r3.bs, q _ _ _ (k.trans k3) r3 (.bl _)⟩) q)
    | false =>
      rw [c, if_neg (by decide)] at q
      rw [if_neg (by decide)]
      exact q _ _ _ k r2 (.bl _)
def dChainS (wa wb wc : TRd) : TD := fun X δ Q => wa X δ fun _ x δ1 => wb X δ1 fun _ y δ2 => ∃ i j : Str, x = .str i ∧ y = .str j ∧ if (!decide (j.cps.toList < i.cps.toList)) = true then wc X δ2 fun _ z δ3 => ∃ k : Str, z = .str k ∧ Q (.bool (!decide (k.cps.toList < j.cps.toList))) δ3 else Q (.bool false) δ2
instance {ta tb tc : TE} {wa wb wc : TRd} [pa : PuR K E ta wa] [pb : PuR K E tb wb] [pc : PuR K E tc wc] : PuE K E (tChain rLeS rLeS ta tb tc) (dChainS wa wb wc) where
  mono h := pa.mono fun _ _ _ => pb.mono fun _ _ _ ⟨i, j, e1, e2, q⟩ => ⟨i, j, e1, e2, by
    split
    · rename_i c; rw [if_pos c] at q; exact pc.mono (fun _ _ _ ⟨k, e, q⟩ => ⟨k, e, h _ _ q⟩) q
    · rename_i c; rw [if_neg c] at q; exact h _ _ q⟩
  run {F hd σ H δ Q} hE r q := bin2 (ta := ta) (tb := tb) hE r q fun l x m y δ2 v u hd2 H2 k r2 d1 d2 ⟨i, j, e1, e2, q⟩ => by
    subst e1; subst e2
    refine ⟨i, j, d1.str r2.bs, d2.str r2.bs, _, rfl, ?_⟩
    have eu := d2.str r2.bs
    cases c : !decide (j.cps.toList < i.cps.toList) with
    | true =>
      rw [c, if_pos rfl] at q
      rw [if_pos rfl]
      exact pc.run hE r2 (pc.mono (fun l z δ3 ⟨n, e, q⟩ v3 hd3 H3 k3 r3 d3 => ⟨j, n, eu, by subst e; exact d3.str r3.bs, q _ _ _ (k.trans k3) r3 (.bl _)⟩) q)
    | false =>
      rw [c, if_neg (by decide)] at q
      rw [if_neg (by decide)]
      exact q _ _ _ k r2 (.bl _)
/-- the signs of a text -/
def sgD (z : Str) : List PyData := z.cps.toList.map fun c => .str ⟨#[c]⟩
def iSg (w : TRd) : TDi := fun X δ Q => w X δ fun _ x δ1 => ∃ z : Str, x = .str z ∧ Q .V (sgD z) δ1
instance {t : TE} {w : TRd} [p : PuR K E t w] : PuI K E (iStr t) (iSg w) where
  mono h := p.mono fun _ _ _ ⟨z, i, q⟩ => ⟨z, i, h _ _ _ q⟩
  run {F hd σ H δ R} hE r q := un1 (t := t) hE r q fun l x δ1 v hd1 H1 k1 r1 d1 ⟨z, e, q⟩ => by
    subst e
    refine ⟨z, d1.str r1.bs, q _ _ _ k1 r1 ?_⟩
    have ln : (sgD z).length = z.cps.size := by simp [sgD]
    rw [ln]
    refine walk_str.mono (fun _ _ => trivial) (fun i Ha x Hb _ _ y => ?_)
    obtain ⟨rfl, c, ec, rfl⟩ := y
    exact ⟨fun _ _ e => e, .str ⟨#[c]⟩, by simp [sgD, ec], .str _⟩
end
/-! ### promises -/
def upS (zs : List Str) : Prop := zs.Pairwise fun a b : Str => a.cps.toList < b.cps.toList
structure Orch (G : Gr) : Prop where
  names : ∀ p ∈ G, IsName p.1
  up : upS (G.map (·.1))
  few : G.length ≤ 1000
  lots : ∀ p ∈ G, okLots p.2 ∧ LeastRow p.2 p.2 ∧ ∀ z ∈ p.2, sortedS z = true ∧ ∀ x ∈ z, x ∈ G.map (·.1) ∧ x ≠ p.1
end Rp

/-! The orchard hung latest. -/
namespace Rp
open PySem PySem.Spec PyProof.Rows L2 TL RZ
structure HungOf' (R G : Gr) : Prop where
  names : (G.map (·.1)).Perm (R.map (·.1))
  rise : (G.map (·.1)).Pairwise leS
  lots : ∀ p ∈ G, ∃ r ∈ R, r.1 = p.1 ∧ LeastRow r.2 p.2
end Rp

/-! The orchard hung latest picks as was told. -/
namespace Rp
open PySem PySem.Spec PyProof.Rows L2 TL RZ
theorem LeastRow.self {ls M : List (List Str)} (h : LeastRow ls M) : LeastRow M M := by
  refine ⟨h.rise, h.nd, fun z => ?_⟩
  constructor
  · intro hz
    obtain ⟨s, y0, hy0, p0, m0⟩ := (h.mem z).mp hz
    refine ⟨s, z, hz, .refl _, fun u hu su x hx => ?_⟩
    obtain ⟨_, y1, hy1, p1, _⟩ := (h.mem u).mp hu
    exact p1.mem_iff.mpr (m0 y1 hy1 (fun a ha => p0.mem_iff.mp (su a (p1.mem_iff.mpr ha))) x (p0.mem_iff.mp hx))
  · rintro ⟨s, y, hy, p, _⟩
    have := sorted_one s ((h.mem y).mp hy).1 p
    rw [this]; exact hy
theorem HungOf'.one {R R' G G' : Gr} (h : HungOf' R G) (h' : HungOf' R' G') (nd : (R.map (·.1)).Nodup) (nd' : (R'.map (·.1)).Nodup) (e : ∀ f, f ∈ R.map (·.1) ↔ f ∈ R'.map (·.1))
    (l : ∀ p ∈ G, ∀ q ∈ G', p.1 = q.1 → p.2 = q.2) : G = G' := by
  have en : G.map (·.1) = G'.map (·.1) := by
    refine eq_of_rising (R := leS) (fun _ _ => leS_anti) h.rise h'.rise (perm_mem (h.names.nodup_iff.mpr nd) (h'.names.nodup_iff.mpr nd') fun x => ?_)
    rw [h.names.mem_iff, h'.names.mem_iff, e]
  have len : G.length = G'.length := by have := congrArg List.length en; simpa using this
  refine List.ext_getElem len fun i h1 h2 => ?_
  have e1 : (G[i]).1 = (G'[i]).1 := by
    have := congrArg (fun l => l[i]?) en
    simp only [List.getElem?_map, List.getElem?_eq_getElem h1, List.getElem?_eq_getElem h2, Option.map_some, Option.some.injEq] at this
    exact this
  exact Prod.ext e1 (l _ (List.getElem_mem h1) _ (List.getElem_mem h2) e1)
section
variable {G G' : Gr} {ps : List Nt} {N : List Str}
end
end Rp

/-! The least lots that meet each of some lots, found lot by lot. -/
namespace Rp
open PySem PySem.Spec PyProof.Rows L2
structure MinHit (zss : List (List Str)) (z : List Str) : Prop where
  hits : ∀ l ∈ zss, ∃ x ∈ z, x ∈ l
  own : ∀ x ∈ z, ∃ l ∈ zss, x ∈ l ∧ ∀ y ∈ z, y ∈ l → y = x
def ownB (zss : List (List Str)) (z : List Str) (x : Str) : Bool := zss.any fun l => decide (x ∈ l) && z.all fun y => !decide (y ∈ l) || decide (y = x)
def noSp (zss : List (List Str)) (z : List Str) : Bool := z.all (ownB zss z)
theorem ownB_iff {zss : List (List Str)} {z : List Str} {x : Str} : ownB zss z x = true ↔ ∃ l ∈ zss, x ∈ l ∧ ∀ y ∈ z, y ∈ l → y = x := by
  unfold ownB
  simp only [List.any_eq_true, Bool.and_eq_true, decide_eq_true_eq, List.all_eq_true, Bool.or_eq_true, Bool.not_eq_true', decide_eq_false_iff_not]
  constructor
  · rintro ⟨l, hl, hx, h⟩
    exact ⟨l, hl, hx, fun y hy yl => (h y hy).resolve_left fun c => c yl⟩
  · rintro ⟨l, hl, hx, h⟩
    refine ⟨l, hl, hx, fun y hy => ?_⟩
    by_cases c : y ∈ l
    · exact .inr (h y hy c)
    · exact .inl c
theorem noSp_iff {zss : List (List Str)} {z : List Str} : noSp zss z = true ↔ ∀ x ∈ z, ∃ l ∈ zss, x ∈ l ∧ ∀ y ∈ z, y ∈ l → y = x := by
  unfold noSp
  rw [List.all_eq_true]
  exact ⟨fun h x hx => ownB_iff.mp (h x hx), fun h x hx => ownB_iff.mpr (h x hx)⟩
/-- of one way, what comes of it -/
def mtOne (upto : List (List Str)) (lot z : List Str) : List (List Str) := if (z.any fun x => decide (x ∈ lot)) = true then [z] else (lot.map fun x => z ++ [x]).filter (noSp upto)
def mtStep (upto : List (List Str)) (lot : List Str) (found : List (List Str)) : List (List Str) := found.flatMap (mtOne upto lot)
theorem any_in {z lot : List Str} : (z.any fun x => decide (x ∈ lot)) = true ↔ ∃ x ∈ z, x ∈ lot := by
  rw [List.any_eq_true]
  exact ⟨fun ⟨x, h, e⟩ => ⟨x, h, of_decide_eq_true e⟩, fun ⟨x, h, e⟩ => ⟨x, h, decide_eq_true e⟩⟩
theorem MinHit.perm {zss : List (List Str)} {z y : List Str} (h : MinHit zss z) (p : z.Perm y) : MinHit zss y :=
  ⟨fun l hl => by obtain ⟨x, hx, e⟩ := h.hits l hl; exact ⟨x, p.mem_iff.mp hx, e⟩, fun x hx => by
    obtain ⟨l, hl, xl, u⟩ := h.own x (p.mem_iff.mpr hx)
    exact ⟨l, hl, xl, fun y hy => u y (p.mem_iff.mpr hy)⟩⟩
theorem mtOne_mem {upto : List (List Str)} {lot z w : List Str} : w ∈ mtOne upto lot z ↔ ((∃ x ∈ z, x ∈ lot) ∧ w = z) ∨ ((¬ ∃ x ∈ z, x ∈ lot) ∧ ∃ x ∈ lot, w = z ++ [x] ∧ noSp upto w = true) := by
  unfold mtOne
  by_cases c : ∃ x ∈ z, x ∈ lot
  · rw [if_pos (any_in.mpr c), List.mem_singleton]
    exact ⟨fun e => .inl ⟨c, e⟩, fun h => h.elim (fun h => h.2) fun h => absurd c h.1⟩
  · rw [if_neg fun h => c (any_in.mp h), List.mem_filter, List.mem_map]
    constructor
    · rintro ⟨⟨x, hx, rfl⟩, e⟩
      exact .inr ⟨c, x, hx, rfl, e⟩
    · rintro (h | ⟨_, x, hx, rfl, e⟩)
      · exact absurd h.1 c
      · exact ⟨⟨x, hx, rfl⟩, e⟩
structure Mets (zss : List (List Str)) (L : List (List Str)) : Prop where
  nd : ∀ z ∈ L, z.Nodup
  min : ∀ z ∈ L, MinHit zss z
  all : ∀ z : List Str, z.Nodup → MinHit zss z → ∃ y ∈ L, y.Perm z
  one : L.Pairwise fun a b => ¬ a.Perm b
theorem mets_step {zss L : List (List Str)} {lot : List Str} (nl : lot.Nodup) (h : Mets zss L) : Mets (zss ++ [lot]) (mtStep (zss ++ [lot]) lot L) := by
  have mem : ∀ w, w ∈ mtStep (zss ++ [lot]) lot L ↔ ∃ z ∈ L, ((∃ x ∈ z, x ∈ lot) ∧ w = z) ∨ ((¬ ∃ x ∈ z, x ∈ lot) ∧ ∃ x ∈ lot, w = z ++ [x] ∧ noSp (zss ++ [lot]) w = true) := fun w => by
    unfold mtStep
    rw [List.mem_flatMap]
    exact ⟨fun ⟨z, hz, e⟩ => ⟨z, hz, mtOne_mem.mp e⟩, fun ⟨z, hz, e⟩ => ⟨z, hz, mtOne_mem.mpr e⟩⟩
  refine ⟨fun w hw => ?_, fun w hw => ?_, fun s nd hs => ?_, ?_⟩
  · obtain ⟨z, hz, ⟨_, rfl⟩ | ⟨c, x, hx, rfl, _⟩⟩ := (mem w).mp hw
    · exact h.nd w hz
    · rw [List.nodup_append]
      exact ⟨h.nd z hz, by simp, fun a ha b hb => by rw [List.mem_singleton.mp hb]; exact fun e => c ⟨a, ha, e ▸ hx⟩⟩
  · obtain ⟨z, hz, ⟨c, rfl⟩ | ⟨c, x, hx, rfl, sp⟩⟩ := (mem w).mp hw
    · refine ⟨fun l hl => ?_, fun y hy => ?_⟩
      · rcases List.mem_append.mp hl with hl | hl
        · exact (h.min w hz).hits l hl
        · rw [List.mem_singleton.mp hl]; exact c
      · obtain ⟨l, hl, r⟩ := (h.min w hz).own y hy
        exact ⟨l, List.mem_append_left _ hl, r⟩
    · refine ⟨fun l hl => ?_, noSp_iff.mp sp⟩
      rcases List.mem_append.mp hl with hl | hl
      · obtain ⟨y, hy, e⟩ := (h.min z hz).hits l hl
        exact ⟨y, by simp [hy], e⟩
      · rw [List.mem_singleton.mp hl]; exact ⟨x, by simp, hx⟩
  · by_cases m : MinHit zss s
    · obtain ⟨y, hy, p⟩ := h.all s nd m
      obtain ⟨x, hx, e⟩ := hs.hits lot (by simp)
      exact ⟨y, (mem y).mpr ⟨y, hy, .inl ⟨⟨x, p.mem_iff.mpr hx, e⟩, rfl⟩⟩, p⟩
    · -- some name has only this lot for its own
      have : ∃ x ∈ s, ¬ ∃ l ∈ zss, x ∈ l ∧ ∀ y ∈ s, y ∈ l → y = x := by
        by_cases c : ∃ x ∈ s, ¬ ∃ l ∈ zss, x ∈ l ∧ ∀ y ∈ s, y ∈ l → y = x
        · exact c
        · refine absurd ⟨fun l hl => hs.hits l (List.mem_append_left _ hl), fun x hx => ?_⟩ m
          by_cases d : ∃ l ∈ zss, x ∈ l ∧ ∀ y ∈ s, y ∈ l → y = x
          · exact d
          · exact absurd ⟨x, hx, d⟩ c
      obtain ⟨x, hx, no⟩ := this
      obtain ⟨l, hl, xl, u⟩ := hs.own x hx
      have el : l = lot := by
        rcases List.mem_append.mp hl with hl | hl
        · exact absurd ⟨l, hl, xl, u⟩ no
        · exact List.mem_singleton.mp hl
      subst el
      have pe := List.perm_cons_erase hx
      have ne : ∀ y ∈ s.erase x, y ≠ x := fun y hy e => by
        rw [e] at hy
        exact (List.Nodup.not_mem_erase nd) hy
      have off : ¬ ∃ y ∈ s.erase x, y ∈ l := fun ⟨y, hy, e⟩ => ne y hy (u y (List.mem_of_mem_erase hy) e)
      have mz : MinHit zss (s.erase x) := by
        refine ⟨fun k hk => ?_, fun y hy => ?_⟩
        · obtain ⟨y, hy, e⟩ := hs.hits k (List.mem_append_left _ hk)
          by_cases c : ∃ y ∈ s, y ∈ k ∧ y ≠ x
          · obtain ⟨y, hy, e, n⟩ := c
            exact ⟨y, (List.mem_erase_of_ne n).mpr hy, e⟩
          · have only : ∀ y ∈ s, y ∈ k → y = x := fun y hy e => by
              by_cases n : y = x
              · exact n
              · exact absurd ⟨y, hy, e, n⟩ c
            have := only y hy e
            exact absurd ⟨k, hk, this ▸ e, only⟩ no
        · have ys := List.mem_of_mem_erase hy
          obtain ⟨k, hk, yk, uk⟩ := hs.own y ys
          rcases List.mem_append.mp hk with hk | hk
          · exact ⟨k, hk, yk, fun v hv => uk v (List.mem_of_mem_erase hv)⟩
          · have : k = l := List.mem_singleton.mp hk
            exact absurd ⟨y, hy, this ▸ yk⟩ off
      obtain ⟨z, hz, p⟩ := h.all _ (nd.erase x) mz
      have pw : (z ++ [x]).Perm s := (List.perm_append_comm.trans (p.cons x)).trans pe.symm
      refine ⟨z ++ [x], (mem _).mpr ⟨z, hz, .inr ⟨fun ⟨y, hy, e⟩ => off ⟨y, p.mem_iff.mp hy, e⟩, x, xl, rfl, noSp_iff.mpr ?_⟩⟩, pw⟩
      exact (hs.perm pw.symm).own
  · unfold mtStep
    rw [List.pairwise_flatMap]
    refine ⟨fun z hz => ?_, ?_⟩
    · unfold mtOne
      split
      · simp
      · refine List.Pairwise.filter _ ?_
        rw [List.pairwise_map]
        refine nl.imp fun {a b} ne p => ne ?_
        have := (List.perm_append_left_iff z).mp p
        simpa using this
    · refine h.one.imp_of_mem fun {a b} ha hb nab w hw v hv p => ?_
      obtain ⟨ca, rfl⟩ | ⟨ca, x, hx, rfl, sa⟩ := mtOne_mem.mp hw
      · obtain ⟨cb, rfl⟩ | ⟨cb, y, hy, rfl, sb⟩ := mtOne_mem.mp hv
        · exact nab p
        · -- w has all of b and y besides; but w has nothing to spare
          obtain ⟨k, hk, yk, uk⟩ := (h.min w ha).own y (p.mem_iff.mpr (by simp))
          obtain ⟨v, hv, vk⟩ := (h.min b hb).hits k hk
          have := uk v (p.mem_iff.mpr (by simp [hv])) vk
          exact cb ⟨v, hv, this ▸ hy⟩
      · obtain ⟨cb, rfl⟩ | ⟨cb, y, hy, rfl, sb⟩ := mtOne_mem.mp hv
        · obtain ⟨k, hk, yk, uk⟩ := (h.min v hb).own x (p.mem_iff.mp (by simp))
          obtain ⟨u, hu, vk⟩ := (h.min a ha).hits k hk
          have := uk u (p.mem_iff.mp (by simp [hu])) vk
          exact ca ⟨u, hu, this ▸ hx⟩
        · have exy : x = y := by
            have : x ∈ b ++ [y] := p.mem_iff.mp (by simp)
            rcases List.mem_append.mp this with h | h
            · exact absurd ⟨x, h, hx⟩ cb
            · exact List.mem_singleton.mp h
          subst exy
          exact nab ((List.perm_append_right_iff [x]).mp p)
end Rp

/-! By bits: whom each lot is met by alone. -/
namespace Rp
open PySem PySem.Spec PyProof.Rows L2
/-- what is known of which lots a name meets -/
def MetBy (zss : List (List Str)) (k : Nat) (x : Str) : Prop := ∀ i, k.testBit i = true ↔ ∃ l, zss[i]? = some l ∧ x ∈ l
def MetOf (zss : List (List Str)) (m : Mp) : Prop := ∀ x, (∃ l ∈ zss, x ∈ l) → ∃ k : Nat, lookM m x = some (.int k) ∧ MetBy zss k x
/-- met once at least, met twice at least, by the names so far -/
structure Onces (zss : List (List Str)) (z : List Str) (a b : Nat) : Prop where
  once : ∀ i, a.testBit i = true ↔ ∃ l, zss[i]? = some l ∧ ∃ x ∈ z, x ∈ l
  again : ∀ i, b.testBit i = true ↔ ∃ l, zss[i]? = some l ∧ ∃ x ∈ z, ∃ y ∈ z, x ≠ y ∧ x ∈ l ∧ y ∈ l
end Rp

/-! x op= e; xs.extend([..]); all of numbers; defs whose last argument is a dict. -/
namespace Rp
open PySem PySem.Spec PyProof.Rows L2
section
variable {K : PySem.W.Frag} {E : XK}
/-! ### x op= e -/
def sAug (g : Int → Int → Int) (i : Nat) (w : TRd) : TDs := fun X P δ => ∃ a : Int, δ.v[i]? = some (.dat (.int a)) ∧ w X δ fun _ y δ1 => ∃ b : Int, y = .int b ∧ P.nx ⟨δ1.v.set i (.dat (.int (g a b))), δ1.n⟩
theorem aug_at {F : Frm K} {hd : Addr → Prop} {σ : L2.St} {H : Hp} {δ : DS} (r : Rep K F hd σ H δ) {i : Nat} {a : Int} (e : δ.v[i]? = some (.dat (.int a))) : σ[i]? = some (some (.int a)) := by
  obtain ⟨v, h1, h2⟩ := r.vars i _ e
  cases h2
  exact h1
instance {i : Nat} {t : TE} {g : Int → Int → Int} {w : TRd} [p : PuR K E t w] : PuS K E (tAug i t (rI0 fun a b => .int (g a b))) (sAug g i w) where
  mono h := fun ⟨a, e, q⟩ => ⟨a, e, p.mono (fun _ _ _ ⟨b, ey, q⟩ => ⟨b, ey, h.nx _ q⟩) q⟩
  run {F hd σ H δ P D} hE r e := fun ⟨a, ea, q⟩ => ⟨_, aug_at r ea, p.run hE r (p.mono (fun l y δ1 ⟨b, ey, q⟩ v hd1 H1 k1 r1 d1 => by
    subst ey
    have := d1.int r1.bs
    subst this
    exact ⟨a, b, rfl, rfl, e.nx _ _ _ _ k1.go (r1.setDat (.int _)) q⟩) q)⟩
/-! ### xs.extend([..]) -/
def sExt (i : Nat) (w : TDa) : TDs := fun X P δ => isOwL δ.v[i]? = true ∧ w X δ fun es δ1 => ∃ ds, δ1.v[i]? = some (AV.own ds) ∧ ds.length + es.length ≤ sizeLine ∧ P.nx ⟨δ1.v.set i (.own (ds ++ es)), δ1.n⟩
instance {i : Nat} {t : TE} {w : TDa} [p : PuN K E t w] : PuS K E (tDrop (tBM K "list" rExtend (tVar i) (tCons t tNil))) (sExt i w) where
  mono h := fun ⟨e, q⟩ => ⟨e, p.mono (fun _ _ ⟨ds, e, l, q⟩ => ⟨ds, e, l, h.nx _ q⟩) q⟩
  run {F hd σ H δ P D} hE r e := fun ⟨eo, q⟩ => by
    obtain ⟨ds0, e0⟩ : ∃ ds, δ.v[i]? = some (AV.own ds) := by
      cases h : δ.v[i]? with
      | none => rw [h] at eo; cases eo
      | some a =>
        cases a <;> first | exact ⟨_, rfl⟩ | (rw [h] at eo; cases eo)
    obtain ⟨a, vs, h1, h2, h3, h4⟩ := r.vars i _ e0
    refine ⟨_, h1, .inl ⟨rfl, vs, .inl (.inl h3)⟩, p.run hE r (p.mono (fun es δ1 ⟨ds, e1, l, q⟩ b ws hd1 H1 k1 r1 r2 np n0 hb d1 => ?_) q)⟩
    obtain ⟨a', vs', g1, g2, g3, g4⟩ := r1.vars i _ e1
    rw [h1] at g1; cases g1
    have d1' : DzAll K (vis F hd1 H1) ws es := DzAll.same (vis_less fun b z => .inl z) d1
    obtain ⟨gg, rr⟩ := r1.store (vs := vs') (ws := vs' ++ ws) e1 h1 (dpAll_app g4 d1')
    exact ⟨a, b, vs', ws, rfl, rfl, g3, hb, by rw [DzAll.len g4, DzAll.len d1]; exact l, e.nx _ _ _ _ (k1.go.trans r1.bs rr.bs gg) rr q⟩
end
/-! ### all of numbers -/
def rAllI (K : PySem.W.Frag) : List V → Hp → VK → Prop := fun vs H Q => ∃ (a : Addr) (ns : List Int), vs = [V.ref a] ∧ SqL K H a (ns.map V.int) ∧ Q (.bl (ns.all fun n => n != 0)) H
section
variable {K : PySem.W.Frag} {E : XK}
def fAllI : Lv → PyData → (PyData → Prop) → Prop := fun _ x Q => ∃ ns : List Int, x = .list (ns.map .int) ∧ Q (.bool (ns.all fun n => n != 0))
instance {t : TE} {w : TRd} [p : PuR K E t w] : PuE K E (tCB (rAllI K) (tCons t tNil)) (dB1 fAllI w) where
  mono h := p.mono fun _ _ _ ⟨ds, i, q⟩ => ⟨ds, i, h _ _ q⟩
  run hE r q := un1 (t := t) hE r q fun l x δ1 v hd1 H1 k1 r1 d1 ⟨ns, e, q⟩ => by
    subst e
    obtain ⟨a, vs, rfl, hs, ha⟩ := d1.seq r1.bs (.inl rfl)
    have e := ints_of ha
    subst e
    rcases hs with hs | hs
    · exact ⟨a, ns, rfl, nt_in.seq hs.2, q _ _ _ k1 r1 (.bl _)⟩
    · cases hs.1
/-! ### defs whose last argument is a dict -/
def OutDl (K : PySem.W.Frag) (F : Frm K) (hd : Addr → Prop) (σ : L2.St) (H : Hp) (al : List Bool) (Q : List V → Hp → Prop) (ds : List PyData) (m : Mp) (δ' : DS) : Prop := ∀ vs a kvs hd' H', Kp F hd H hd' H' → Rep K F hd' σ H' δ' → ArgsV K (vis F hd' H') (ntH F H') al vs ds → vis F hd' H' a = some (.dK kvs) → MapAt K (vis F hd' H') kvs (mpK m) → Q (vs ++ [.ref a]) H'
abbrev TDdl := XP → DS → (List PyData → Mp → DS → Prop) → Prop
class PuDl (K : PySem.W.Frag) (E : XK) (al : List Bool) (t : TA) (w : outParam TDdl) : Prop where
  mono : ∀ {X : XP} {δ : DS} {Q Q' : List PyData → Mp → DS → Prop}, (∀ d m δ', Q d m δ' → Q' d m δ') → w X δ Q → w X δ Q'
  run : ∀ {F : Frm K} {hd : Addr → Prop} {σ : L2.St} {H : Hp} {δ : DS} {Q : List V → Hp → Prop}, F.E = E → Rep K F hd σ H δ → w F.X δ (OutDl K F hd σ H al Q) → t σ H Q
def dEndDl (wm : TDm) : TDdl := fun X δ Q => wm X δ fun m δ1 => Q [] m δ1
instance {t : TE} {wm : TDm} [p : PuM K E t wm] : PuDl K E [] (tCons t tNil) (dEndDl wm) where
  mono h := p.mono fun _ _ q => h _ _ _ q
  run hE r q := p.run hE r (p.mono (fun m δ1 q v hd1 H1 k1 r1 d1 => by
    obtain ⟨a, kvs, rfl, h1, h2⟩ := d1
    exact q [] a kvs hd1 H1 k1 r1 trivial h1 h2) q)
def dConsDl (wa : TD) (wb : TDdl) : TDdl := fun X δ Q => wa X δ fun x δ1 => wb X δ1 fun xs m δ2 => Q (x :: xs) m δ2
instance {al : List Bool} {ta : TE} {tb : TA} {wa : TD} {wb : TDdl} [pa : PuE K E ta wa] [pb : PuDl K E al tb wb] : PuDl K E (true :: al) (tCons ta tb) (dConsDl wa wb) where
  mono h := pa.mono fun _ _ => pb.mono fun _ _ _ q => h _ _ _ q
  run hE r q := pa.run hE r (pa.mono (fun x δ1 q v hd1 H1 k1 r1 d1 => pb.run hE r1 (pb.mono (fun xs m δ2 q vs a kvs hd2 H2 k2 r2 d2 e1 e2 => q (v :: vs) a kvs _ _ (k1.trans k2) r2 ⟨Dz.same (vis_go r1.bs k2.go) d1, d2⟩ e1 e2) q)) q)
def dConsDlR (wa : TRd) (wb : TDdl) : TDdl := fun X δ Q => wa X δ fun l x δ1 => notP l x = true ∧ wb X δ1 fun xs m δ2 => Q (x :: xs) m δ2
instance {al : List Bool} {ta : TE} {tb : TA} {wa : TRd} {wb : TDdl} [pa : PuR K E ta wa] [pb : PuDl K E al tb wb] : PuDl K E (false :: al) (tCons ta tb) (dConsDlR wa wb) where
  mono h := pa.mono fun _ _ _ ⟨n, q⟩ => ⟨n, pb.mono (fun _ _ _ q => h _ _ _ q) q⟩
  run hE r q := pa.run hE r (pa.mono (fun l x δ1 ⟨n, q⟩ v hd1 H1 k1 r1 d1 => pb.run hE r1 (pb.mono (fun xs m δ2 q vs a kvs hd2 H2 k2 r2 d2 e1 e2 => q (v :: vs) a kvs _ _ (k1.trans k2) r2 ⟨Dz.same (nt_kp k2) (d1.ns r1.bs n), d2⟩ e1 e2) q)) q)
def spML (K : PySem.W.Frag) (al : List Bool) (s : WM) : Sp := fun vs H Q _ => ∃ (a : Addr) (ws : List V) (kvs : List (Key × V)) (V0 : Hp) (m : Mp) (ds : List PyData) (g : s.G), vs = ws ++ [.ref a] ∧ Same V0 H ∧ V0 a = some (.dK kvs) ∧ MapAt K V0 kvs (mpK m) ∧ ArgsV K V0 H al ws ds ∧ s.pre g m ds ∧
  ∀ d, s.post g d → ∀ v H', Same H H' → Dz K (over V0 H H') v d → Q v H'
def dCallDl (s : WM) (w : TDdl) : TD := fun X δ Q => w X δ fun ds m δ1 => ∃ g, s.pre g m ds ∧ ∀ d, s.post g d → Q d δ1
instance {al : List Bool} {s : WM} {t : TA} {w : TDdl} [p : PuDl K E al t w] : PuE K E (tCall (spML K al s) [] E0 t) (dCallDl s w) where
  mono h := p.mono fun _ _ _ ⟨g, a, q⟩ => ⟨g, a, fun d z => h _ _ (q d z)⟩
  run {F hd σ H δ Q} hE r q := p.run hE r (p.mono (fun ds m δ1 ⟨g, pr, q⟩ vs a kvs hd1 H1 k1 r1 d1 e1 e2 => by
    show spML K al s (vs ++ [.ref a] ++ []) H1 _ _
    rw [List.append_nil]
    refine ⟨a, vs, kvs, vis F hd1 H1, m, ds, g, rfl, vis_in r1, e1, e2, ArgsV.same (fun _ _ e => e) nt_in d1, pr, fun d pd u H' sH du => ?_⟩
    exact q d pd u hd1 H' (k1.trans (.of_same sH)) (r1.same sH) (Dz.same (over_vis r1 fun b o h _ => sH b o h) du)) q)
end
end Rp

/-! The dict of the lots that each name meets. -/
namespace Rp
open PySem PySem.Spec PyProof.Rows L2
abbrev Ms := List (Str × Nat)
def msV (ms : Ms) : List (Key × V) := ms.map fun p => (.inr p.1, .int (p.2 : Nat))
def msM (ms : Ms) : Mp := ms.map fun p => (p.1, .int (p.2 : Nat))
def lookS (ms : Ms) (x : Str) : Option Nat := (ms.find? fun p => decide (p.1 = x)).map (·.2)
theorem msM_look (ms : Ms) (x : Str) : lookM (msM ms) x = (lookS ms x).map fun n => PyData.int (n : Nat) := by
  induction ms with
  | nil => rfl
  | cons p ms ih =>
    by_cases c : p.1 = x
    · simp [lookM, lookS, msM, c]
    · have : lookM (msM (p :: ms)) x = lookM (msM ms) x := by simp [lookM, msM, c]
      rw [this, ih]
      simp [lookS, c]
/-- what the dict holds when so many lots have been read -/
structure MetK (zs : List (List Str)) (ms : Ms) : Prop where
  nd : (ms.map (·.1)).Nodup
  bits : ∀ p ∈ ms, MetBy zs p.2 p.1
  all : ∀ l ∈ zs, ∀ x ∈ l, x ∈ ms.map (·.1)
  of : ∀ p ∈ ms, ∃ l ∈ zs, p.1 ∈ l
theorem lookS_some {ms : Ms} {x : Str} {n : Nat} (h : lookS ms x = some n) : (x, n) ∈ ms := by
  unfold lookS at h
  obtain ⟨p, hp, rfl⟩ := Option.map_eq_some_iff.mp h
  have := List.find?_some hp
  have e : p.1 = x := of_decide_eq_true this
  have m := List.mem_of_find?_eq_some hp
  rw [← e]
  exact m
theorem lookS_none {ms : Ms} {x : Str} (h : lookS ms x = none) : x ∉ ms.map (·.1) := by
  unfold lookS at h
  rw [Option.map_eq_none_iff, List.find?_eq_none] at h
  intro c
  obtain ⟨p, hp, e⟩ := List.mem_map.mp c
  exact h p hp (decide_eq_true e)
theorem lookS_in {ms : Ms} {x : Str} (h : x ∈ ms.map (·.1)) : ∃ n, lookS ms x = some n := by
  cases e : lookS ms x with
  | none => exact absurd h (lookS_none e)
  | some n => exact ⟨n, rfl⟩
theorem metk_of {zss : List (List Str)} {ms : Ms} (h : MetK zss ms) : MetOf zss (msM ms) := fun x ⟨l, hl, hx⟩ => by
  obtain ⟨n, en⟩ := lookS_in (h.all l hl x hx)
  exact ⟨n, by rw [msM_look, en]; rfl, h.bits _ (lookS_some en)⟩
/-- what met_by promises -/
def spMet (K : PySem.W.Frag) : Sp := fun vs H Q _ => ∃ (a : Addr) (ks : List (Addr × List Str)) (pool : List Str), vs = [.ref a] ∧ SqL K H a (ks.map fun p => V.ref p.1) ∧ (∀ p ∈ ks, Sq K H p.1 (p.2.map V.str)) ∧ ks.length ≤ 1000 ∧ pool.length < 64 ∧ (∀ p ∈ ks, p.2.Nodup ∧ ∀ x ∈ p.2, x ∈ pool) ∧
  ∀ H' q ms, Same H H' → H q = none → MetK (ks.map (·.2)) ms → H' q = some (.dK (msV ms)) → Q (.ref q) H'
section
variable {K : PySem.W.Frag} {E : XK}
def mMet (w : TRd) : TDm := fun X δ Q => w X δ fun _ x δ1 => ∃ (ds : List PyData) (zss : List (List Str)) (pool : List Str), x = .list ds ∧ Al isLot ds zss ∧ zss.length ≤ 1000 ∧ pool.length < 64 ∧ (∀ z ∈ zss, z.Nodup ∧ ∀ x ∈ z, x ∈ pool) ∧ ∀ m : Mp, MetOf zss m → Q m δ1
theorem ms_at {H : Hp} (ms : Ms) : MapAt K H (msV ms) (mpK (msM ms)) := by
  unfold msV msM mpK
  refine ⟨by simp, ?_⟩
  induction ms with
  | nil => exact .nil
  | cons p l ih => exact .cons (.int _) ih
instance {t : TE} {w : TRd} [p : PuR K E t w] : PuM K E (tCall (spMet K) [] E0 (tCons t tNil)) (mMet w) where
  mono h := p.mono fun _ _ _ ⟨ds, zss, pool, a, b, c, d, e, q⟩ => ⟨ds, zss, pool, a, b, c, d, e, fun m o => h _ _ (q m o)⟩
  run {F hd σ H δ Q} hE r q := un1 (t := t) hE r q fun l x δ1 v hd1 H1 k1 r1 d1 ⟨ds, zss, pool, ix, al, lz, lp, inp, q⟩ => by
    subst ix
    obtain ⟨a, vs, rfl, hs, ha⟩ := d1.seq r1.bs (.inl rfl)
    obtain ⟨ks, rfl, rfl, hk⟩ := lots_ks (l := l) r1.bs ha al
    show spMet K [.ref a] H1 Q E0
    rcases hs with hs | hs
    · refine ⟨a, ks, pool, rfl, nt_in.seq hs.2, hk, by rw [List.length_map] at lz; exact lz, lp, fun p hp => inp p.2 (List.mem_map.mpr ⟨p, hp, rfl⟩), fun H' q' ms sH nq mk eq => ?_⟩
      have fr := r1.fresh nq
      exact q (msM ms) (metk_of mk) _ _ _ (k1.trans (.of_same sH)) (r1.same sH) ⟨q', _, rfl, by rw [vis_new fr.1 fr.2.1]; exact eq, ms_at ms⟩
    · cases hs.1
/-- name = met_by(e) -/
instance (priority := 1100) {t : TE} {i : Nat} {w : TDm} [p : PuM K E (tCall (spMet K) [] E0 (tCons t tNil)) w] : PuS K E (tAsg (tCall (spMet K) [] E0 (tCons t tNil)) (gName i)) (sMap w i) where
  mono h := p.mono fun _ _ q => h.nx _ q
  run {F hd σ H δ P D} hE r e q := p.run hE r (p.mono (fun m δ1 q v hd1 H1 k1 r1 d1 => e.nx _ _ _ _ k1.go (r1.setObj d1) q) q)
end
end Rp

/-! What the search for lots that meet promises. -/
namespace Rp
open PySem PySem.Spec PyProof.Rows L2
section
variable {K : PySem.W.Frag} {E : XK}
def fShl1 : PyData → PyData → (PyData → Prop) → Prop := fun x y Q => ∃ k : Nat, x = .int 1 ∧ y = .int (k : Int) ∧ k ≤ 134217727 ∧ Q (.int (2 ^ k))
instance {ta tb : TE} {wa wb : TRd} [pa : PuR K E ta wa] [pb : PuR K E tb wb] : PuE K E (tOp rShl1 ta tb) (dOp fShl1 wa wb) where
  mono h := pa.mono fun _ _ _ => pb.mono fun _ _ _ ⟨k, e1, e2, l, q⟩ => ⟨k, e1, e2, l, h _ _ q⟩
  run hE r q := bin2 hE r q fun l x m y δ2 v u hd2 H2 k r2 d1 d2 ⟨n, e1, e2, l, q⟩ => ⟨n, by subst e1; exact d1.int r2.bs, by subst e2; exact d2.int r2.bs, l, q _ _ _ k r2 (.int _)⟩
end
theorem MinHit.sub {zss : List (List Str)} {z : List Str} {pool : List Str} (h : MinHit zss z) (p : ∀ l ∈ zss, ∀ x ∈ l, x ∈ pool) : ∀ x ∈ z, x ∈ pool := fun x hx => by
  obtain ⟨l, hl, xl, _⟩ := h.own x hx
  exact p l hl x xl
theorem mets_few {zss L : List (List Str)} {pool : List Str} (h : Mets zss L) (p : ∀ l ∈ zss, ∀ x ∈ l, x ∈ pool) : L.length ≤ 2 ^ pool.length := by
  have sub : ∀ z ∈ L, ∀ x ∈ z, x ∈ pool := fun z hz => (h.min z hz).sub p
  have nd : (L.map (maskN pool)).Nodup := by
    unfold List.Nodup
    rw [List.pairwise_map]
    refine h.one.imp_of_mem fun {a b} ha hb np e => np ?_
    have ab := (mask_in (h.nd a ha) (h.nd b hb) (sub a ha) (sub b hb)).mp (by rw [e]; exact Nat.and_self _)
    have ba := (mask_in (h.nd b hb) (h.nd a ha) (sub b hb) (sub a ha)).mp (by rw [e]; exact Nat.and_self _)
    exact perm_mem (h.nd a ha) (h.nd b hb) fun x => ⟨ab x, ba x⟩
  have := sub_few (y := L.map (maskN pool)) (z := List.range (2 ^ pool.length)) nd fun n hn => by
    obtain ⟨z, hz, rfl⟩ := List.mem_map.mp hn
    exact List.mem_range.mpr (mask_small (Nat.le_refl _) (h.nd z hz) (sub z hz))
  rwa [List.length_map, List.length_range] at this
structure MtIn (zss : List (List Str)) (k : Nat) (lot : List Str) (L : List (List Str)) (pool : List Str) : Prop where
  at_ : zss[k]? = some lot
  mets : Mets (zss.take k) L
  lots : ∀ z ∈ zss, z.Nodup ∧ ∀ x ∈ z, x ∈ pool
  few : pool.length ≤ 12
  many : zss.length ≤ 1000
section
variable {zss L : List (List Str)} {k : Nat} {lot pool : List Str}
theorem MtIn.lt (h : MtIn zss k lot L pool) : k < zss.length := (List.getElem?_eq_some_iff.mp h.at_).1
theorem MtIn.next (h : MtIn zss k lot L pool) : Mets (zss.take (k + 1)) (mtStep (zss.take (k + 1)) lot L) := by
  rw [take_more h.at_]
  exact mets_step (h.lots lot (List.mem_of_getElem? h.at_)).1 h.mets
theorem MtIn.len (h : MtIn zss k lot L pool) : (mtStep (zss.take (k + 1)) lot L).length ≤ 4096 := by
  have := mets_few (pool := pool) h.next fun l hl x hx => (h.lots l (List.mem_of_mem_take hl)).2 x hx
  have : 2 ^ pool.length ≤ 2 ^ 12 := Nat.pow_le_pow_right (by decide) h.few
  omega
end
end Rp

/-! sorted(xs), a list of tuples, bare ones among them. -/
namespace Rp
section
open PySem PySem.W PySem.SeqAt PySem.Calls PyProof.Rows
variable {prog : Program} {w : World} {A : Around} {E : Value → Shared → Prop} {s : Shared}
end
section
open PySem PySem.Spec PyProof.Rows L2 SrtO
def rSortU (K : PySem.W.Frag) : List V → Hp → VK → Prop := fun vs H Q => ∃ (a : Addr) (ps : List (V × PyData)), vs = [V.ref a] ∧ SqL K H a (ps.map (·.1)) ∧ (∀ p ∈ ps, Dp K H p.1 p.2) ∧ PySem.W.AllAlike (ps.map (·.2)) ∧ (∀ p ∈ ps, ∃ xs, p.2 = .tuple xs) ∧
  (∀ p ∈ ps, p.2.depth ≤ 30) ∧ ∀ q, H q = none → Q (.ref q) (upd H q (.lst ((srtD ps).map (·.1))))
variable {K : PySem.W.Frag} {E : XK}
/-- sorted of lots: as they rise -/
def fSortU : Lv → PyData → (PyData → Prop) → Prop := fun l x Q => ∃ M : List (List Str), x = .list (M.map txD) ∧ okU l (M.map txD) ∧ ∀ M' : List (List Str), M'.Perm M → (M'.Pairwise fun a b => leD (txD a) (txD b)) → Q (.list (M'.map txD))
instance {t : TE} {w : TRd} [p : PuR K E t w] : PuE K E (tCB (rSortU K) (tCons t tNil)) (dB1 fSortU w) where
  mono h := p.mono fun _ _ _ ⟨M, i, c, q⟩ => ⟨M, i, c, fun M' a b => h _ _ (q M' a b)⟩
  run hE r q := un1 (t := t) hE r q fun l x δ1 v hd1 H1 k1 r1 d1 ⟨M, i, c, q⟩ => by
    subst i
    obtain ⟨a, vs, rfl, hs, ha⟩ := d1.seq r1.bs (.inl rfl)
    have hv := DzAll.upU ha c
    obtain ⟨z1, z2, z3⟩ := zip_dz hv
    have tups : ∀ p ∈ vs.zip (M.map txD), ∃ y, p.2 = txD y := fun p hp => by
      have : p.2 ∈ M.map txD := by rw [← z2]; exact List.mem_map.mpr ⟨p, hp, rfl⟩
      obtain ⟨y, _, e⟩ := List.mem_map.mp this
      exact ⟨y, e.symm⟩
    rcases hs with hs | hs
    · refine ⟨a, vs.zip (M.map txD), rfl, by rw [z1]; exact nt_in.seq hs.2, fun p hp => (Dz.same (((vis_rd r1.bs).trans rd_nt).trans nt_in) (z3 p hp)).dp, by rw [z2]; exact txs_alike M, fun p hp => by obtain ⟨y, e⟩ := tups p hp; exact ⟨_, e⟩, fun p hp => by obtain ⟨y, e⟩ := tups p hp; rw [e]; exact tx_depth y, fun p np => ?_⟩
      obtain ⟨M', e', pm, rise⟩ := srt_back z2
      have qq := q M' pm rise
      rw [← e'] at qq
      exact newLst r1 np (dz_zip fun p hp => z3 p (srtD_mem hp)) (qq.kp k1)
    · cases hs.1
end
end Rp

/-! What meeting promises. -/
namespace Rp
open PySem PySem.Spec PyProof.Rows L2
structure MeetRow (zss M : List (List Str)) : Prop where
  rise : M.Pairwise fun a b => leD (txD a) (txD b)
  nd : M.Nodup
  mem : ∀ z, z ∈ M ↔ sortedS z = true ∧ z.Nodup ∧ MinHit zss z
theorem MeetRow.one {zss zss' M M' : List (List Str)} (h : MeetRow zss M) (h' : MeetRow zss' M') (e : ∀ z, z ∈ M ↔ z ∈ M') : M = M' :=
  eq_of_rising (R := fun a b => leD (txD a) (txD b)) (fun _ _ => tx_anti) h.rise h'.rise (perm_mem h.nd h'.nd e)
theorem MinHit.like {zss zss' : List (List Str)} {z : List Str} (e : ∀ l ∈ zss', ∃ l' ∈ zss, ∀ x, x ∈ l ↔ x ∈ l') (e' : ∀ l ∈ zss, ∃ l' ∈ zss', ∀ x, x ∈ l ↔ x ∈ l') (h : MinHit zss z) : MinHit zss' z := by
  refine ⟨fun l hl => ?_, fun x hx => ?_⟩
  · obtain ⟨l', hl', e⟩ := e l hl
    obtain ⟨x, hx, xl⟩ := h.hits l' hl'
    exact ⟨x, hx, (e x).mpr xl⟩
  · obtain ⟨l, hl, xl, u⟩ := h.own x hx
    obtain ⟨l', hl', e⟩ := e' l hl
    exact ⟨l', hl', (e x).mp xl, fun y hy yl => u y hy ((e y).mpr yl)⟩
theorem MinHit.same {zss zss' : List (List Str)} {z : List Str} (e : ∀ l, l ∈ zss ↔ l ∈ zss') (h : MinHit zss z) : MinHit zss' z :=
  h.like (fun l hl => ⟨l, (e l).mpr hl, fun _ => .rfl⟩) (fun l hl => ⟨l, (e l).mp hl, fun _ => .rfl⟩)
structure LotsIn (zss : List (List Str)) (pool : List Str) : Prop where
  lots : ∀ z ∈ zss, z.Nodup ∧ ∀ x ∈ z, x ∈ pool
  few : pool.length ≤ 12
  many : zss.length ≤ 1000
end Rp

/-! The orchard hung soonest: promises. -/
namespace Rp
open PySem PySem.Spec PyProof.Rows L2 TL RZ
/-- by what a fruit was seen not to be ripe -/
def notsG (ps : List Nt) (f : Str) : List (List Str) := ps.filterMap fun p => notByG p.1 p.2 f
theorem nots_mem {ps : List Nt} {f : Str} {b : List Str} : b ∈ notsG ps f ↔ ∃ p ∈ ps, notByG p.1 p.2 f = some b := by
  unfold notsG
  rw [List.mem_filterMap]
/-- what is left of some names, each lot of some out -/
def outG (names : List Str) (lots : List (List Str)) : List (List Str) := lots.map fun l => names.filter fun x => !decide (x ∈ l)
theorem out_mem {names : List Str} {lots : List (List Str)} {l : List Str} : l ∈ outG names lots ↔ ∃ b ∈ lots, l = names.filter fun x => !decide (x ∈ b) := by
  unfold outG
  rw [List.mem_map]
  exact ⟨fun ⟨b, h, e⟩ => ⟨b, h, e.symm⟩, fun ⟨b, h, e⟩ => ⟨b, h, e.symm⟩⟩
theorem MeetRow.like {zss zss' M : List (List Str)} (h : MeetRow zss M) (e : ∀ l ∈ zss', ∃ l' ∈ zss, ∀ x, x ∈ l ↔ x ∈ l') (e' : ∀ l ∈ zss, ∃ l' ∈ zss', ∀ x, x ∈ l ↔ x ∈ l') : MeetRow zss' M := by
  refine ⟨h.rise, h.nd, fun z => ?_⟩
  rw [h.mem]
  exact ⟨fun ⟨a, b, c⟩ => ⟨a, b, c.like e e'⟩, fun ⟨a, b, c⟩ => ⟨a, b, c.like (fun l hl => by obtain ⟨l', h', e⟩ := e' l hl; exact ⟨l', h', e⟩) (fun l hl => by obtain ⟨l', h', e⟩ := e l hl; exact ⟨l', h', e⟩)⟩⟩
theorem out_like {names names' : List Str} {lots lots' : List (List Str)} (n : ∀ x, x ∈ names ↔ x ∈ names') (l : likeL lots lots') : (∀ l ∈ outG names' lots', ∃ l' ∈ outG names lots, ∀ x, x ∈ l ↔ x ∈ l') ∧ ∀ l ∈ outG names lots, ∃ l' ∈ outG names' lots', ∀ x, x ∈ l ↔ x ∈ l' := by
  have key : ∀ (b b' : List Str), b.Perm b' → ∀ x, (x ∈ names.filter fun x => !decide (x ∈ b)) ↔ x ∈ names'.filter fun x => !decide (x ∈ b') := fun b b' p x => by
    simp only [List.mem_filter, Bool.not_eq_true', decide_eq_false_iff_not]
    rw [n, p.mem_iff]
  constructor
  · intro k hk
    obtain ⟨b', hb, rfl⟩ := out_mem.mp hk
    obtain ⟨b, hb, p⟩ := l.2 b' hb
    exact ⟨_, out_mem.mpr ⟨b, hb, rfl⟩, fun x => (key b b' p x).symm⟩
  · intro k hk
    obtain ⟨b, hb, rfl⟩ := out_mem.mp hk
    obtain ⟨b', hb, p⟩ := l.1 b hb
    exact ⟨_, out_mem.mpr ⟨b', hb, rfl⟩, fun x => key b b' p x⟩
def othersG (fs : List Str) (f : Str) : List Str := fs.filter fun z => !decide (z = f)
/-- the orchard hung soonest, its fruits as they are named -/
structure SoonOf (ps : List Nt) (fs : List Str) (G : Gr) : Prop where
  names : G.map (·.1) = fs
  lots : ∀ p ∈ G, MeetRow (outG (othersG fs p.1) (notsG ps p.1)) p.2
theorem SoonOf.one {ps qs : List Nt} {fs : List Str} {G G' : Gr} (h : SoonOf ps fs G) (h' : SoonOf qs fs G') (e : ∀ p, p ∈ ps ↔ p ∈ qs) : G = G' := by
  have len : G.length = G'.length := by
    have a := congrArg List.length h.names
    have b := congrArg List.length h'.names
    rw [List.length_map] at a b
    omega
  refine List.ext_getElem len fun i h1 h2 => ?_
  have e1 : (G[i]).1 = (G'[i]).1 := by
    have := congrArg (fun l => l[i]?) (h.names.trans h'.names.symm)
    simp only [List.getElem?_map, List.getElem?_eq_getElem h1, List.getElem?_eq_getElem h2, Option.map_some, Option.some.injEq] at this
    exact this
  have m1 := h.lots _ (List.getElem_mem h1)
  have m2 := h'.lots _ (List.getElem_mem h2)
  rw [← e1] at m2
  have nm : ∀ b, b ∈ notsG ps (G[i]).1 ↔ b ∈ notsG qs (G[i]).1 := fun b => by
    rw [nots_mem, nots_mem]
    exact ⟨fun ⟨p, hp, r⟩ => ⟨p, (e p).mp hp, r⟩, fun ⟨p, hp, r⟩ => ⟨p, (e p).mpr hp, r⟩⟩
  have lk : likeL (notsG qs (G[i]).1) (notsG ps (G[i]).1) := ⟨fun b hb => ⟨b, (nm b).mpr hb, .refl _⟩, fun b hb => ⟨b, (nm b).mp hb, .refl _⟩⟩
  have o := out_like (names := othersG fs (G[i]).1) (names' := othersG fs (G[i]).1) (fun _ => .rfl) lk
  have m3 := m2.like o.1 o.2
  exact Prod.ext e1 (m1.one m3 fun z => by rw [m1.mem, m3.mem])
theorem meet_min {zss : List (List Str)} {z : List Str} (nd : z.Nodup) : MinHit zss z ↔ (∀ l ∈ zss, ∃ x ∈ z, x ∈ l) ∧ ∀ x ∈ z, ¬ ∀ l ∈ zss, ∃ y ∈ z, y ≠ x ∧ y ∈ l := by
  constructor
  · intro h
    refine ⟨h.hits, fun x hx c => ?_⟩
    obtain ⟨l, hl, xl, u⟩ := h.own x hx
    obtain ⟨y, hy, ne, yl⟩ := c l hl
    exact ne (u y hy yl)
  · rintro ⟨h, m⟩
    refine ⟨h, fun x hx => ?_⟩
    by_cases c : ∃ l ∈ zss, x ∈ l ∧ ∀ y ∈ z, y ∈ l → y = x
    · exact c
    · refine absurd (fun l hl => ?_) (m x hx)
      by_cases d : ∃ y ∈ z, y ≠ x ∧ y ∈ l
      · exact d
      · have u : ∀ y ∈ z, y ∈ l → y = x := fun y hy yl => by
          by_cases e : y = x
          · exact e
          · exact absurd ⟨y, hy, e, yl⟩ d
        obtain ⟨y, hy, yl⟩ := h l hl
        exact absurd ⟨l, hl, u y hy yl ▸ yl, u⟩ c
end Rp

/-! All lots of some names; the least of many lots. -/
namespace Rp
open PySem PySem.Spec PyProof.Rows L2 TL RZ
structure Subs (g : List Str) (M : List (List Str)) : Prop where
  nd : ∀ z ∈ M, z.Nodup ∧ ∀ x ∈ z, x ∈ g
  all : ∀ u : List Str, u.Nodup → (∀ x ∈ u, x ∈ g) → ∃ y ∈ M, y.Perm u
  one : M.Pairwise fun a b => ¬ a.Perm b
theorem Subs.perm {g : List Str} {M M' : List (List Str)} (h : Subs g M) (p : M'.Perm M) : Subs g M' := by
  refine ⟨fun z hz => h.nd z (p.mem_iff.mp hz), fun u nd hu => ?_, ?_⟩
  · obtain ⟨y, hy, q⟩ := h.all u nd hu
    exact ⟨y, p.mem_iff.mpr hy, q⟩
  · exact (p.pairwise_iff fun {a b} h q => h q.symm).mpr h.one
end Rp

/-! The orchard hung soonest picks as was told. -/
namespace Rp
open PySem PySem.Spec PyProof.Rows L2 TL RZ
theorem ex_hit {zss : List (List Str)} : ∀ (n : Nat) (u : List Str), u.length ≤ n → u.Nodup → (∀ l ∈ zss, ∃ x ∈ u, x ∈ l) → ∃ z : List Str, z.Nodup ∧ (∀ x ∈ z, x ∈ u) ∧ MinHit zss z
  | 0, u, h, nd, hit => by
    have : u = [] := List.length_eq_zero_iff.mp (by omega)
    subst this
    exact ⟨[], nd, by simp, hit, by simp⟩
  | n + 1, u, h, nd, hit => by
    by_cases c : ∃ x ∈ u, ∀ l ∈ zss, ∃ y ∈ u, y ≠ x ∧ y ∈ l
    · obtain ⟨x, hx, hh⟩ := c
      have le := List.length_erase_of_mem hx
      obtain ⟨z, nz, sz, mz⟩ := ex_hit n (u.erase x) (by have : 0 < u.length := List.length_pos_of_mem hx; omega) (nd.erase x) fun l hl => by
        obtain ⟨y, hy, ne, yl⟩ := hh l hl
        exact ⟨y, (List.mem_erase_of_ne ne).mpr hy, yl⟩
      exact ⟨z, nz, fun v hv => List.mem_of_mem_erase (sz v hv), mz⟩
    · exact ⟨u, nd, fun _ h => h, (meet_min nd).mpr ⟨hit, fun x hx hh => c ⟨x, hx, hh⟩⟩⟩
theorem ex_once : ∀ o : List Str, ∃ u : List Str, u.Nodup ∧ ∀ x, x ∈ u ↔ x ∈ o
  | [] => ⟨[], .nil, fun _ => .rfl⟩
  | a :: o => by
    obtain ⟨u, nd, h⟩ := ex_once o
    by_cases c : a ∈ u
    · refine ⟨u, nd, fun x => ?_⟩
      rw [h, List.mem_cons]
      exact ⟨.inr, fun e => e.elim (fun e => e ▸ (h a).mp c) id⟩
    · exact ⟨a :: u, List.nodup_cons.mpr ⟨c, nd⟩, fun x => by rw [List.mem_cons, List.mem_cons, h]⟩
theorem MeetRow.inOne {zss M : List (List Str)} (h : MeetRow zss M) {o : List Str} : Rp.inOne M o = true ↔ ∀ l ∈ zss, ∃ x ∈ o, x ∈ l := by
  rw [inOne_iff]
  constructor
  · rintro ⟨z, hz, s⟩ l hl
    obtain ⟨x, hx, xl⟩ := ((h.mem z).mp hz).2.2.hits l hl
    exact ⟨x, s x hx, xl⟩
  · intro hit
    obtain ⟨u, ndu, hu⟩ := ex_once o
    obtain ⟨z, nz, sz, mz⟩ := ex_hit (zss := zss) u.length u (Nat.le_refl _) ndu fun l hl => by
      obtain ⟨x, hx, xl⟩ := hit l hl
      exact ⟨x, (hu x).mpr hx, xl⟩
    obtain ⟨y, p, so⟩ := ex_srt z
    exact ⟨y, (h.mem y).mpr ⟨so, p.nodup_iff.mpr nz, mz.perm p.symm⟩, fun x hx => (hu x).mp (sz x (p.mem_iff.mp hx))⟩
section
variable {G G' : Gr} {ps : List Nt} {fs : List Str}
end
end Rp

/-! The orchard hung soonest, by the least of all lots. -/
namespace Rp
open PySem PySem.Spec PyProof.Rows L2 TL RZ
theorem MeetRow.few {zss M : List (List Str)} {pool : List Str} (h : MeetRow zss M) (p : ∀ l ∈ zss, ∀ x ∈ l, x ∈ pool) : M.length ≤ 2 ^ pool.length := by
  have sub : ∀ z ∈ M, z.Nodup ∧ ∀ x ∈ z, x ∈ pool := fun z hz => ⟨((h.mem z).mp hz).2.1, ((h.mem z).mp hz).2.2.sub p⟩
  have nd : (M.map (maskN pool)).Nodup := by
    unfold List.Nodup
    rw [List.pairwise_map]
    refine h.nd.imp_of_mem fun {a b} ha hb ne e => ne ?_
    have ab := (mask_in (sub a ha).1 (sub b hb).1 (sub a ha).2 (sub b hb).2).mp (by rw [e]; exact Nat.and_self _)
    have ba := (mask_in (sub b hb).1 (sub a ha).1 (sub b hb).2 (sub a ha).2).mp (by rw [e]; exact Nat.and_self _)
    exact sorted_one ((h.mem a).mp ha).1 ((h.mem b).mp hb).1 (perm_mem (sub a ha).1 (sub b hb).1 fun x => ⟨ab x, ba x⟩)
  have := sub_few (y := M.map (maskN pool)) (z := List.range (2 ^ pool.length)) nd fun n hn => by
    obtain ⟨z, hz, rfl⟩ := List.mem_map.mp hn
    exact List.mem_range.mpr (mask_small (Nat.le_refl _) (sub z hz).1 (sub z hz).2)
  rwa [List.length_map, List.length_range] at this
theorem MeetRow.self {zss M : List (List Str)} (h : MeetRow zss M) : LeastRow M M := by
  refine ⟨h.rise, h.nd, fun z => ?_⟩
  constructor
  · intro hz
    refine ⟨((h.mem z).mp hz).1, z, hz, .refl _, fun u hu su x hx => ?_⟩
    by_cases c : x ∈ u
    · exact c
    · exfalso
      have mz := ((h.mem z).mp hz).2
      have mu := ((h.mem u).mp hu).2.2
      refine ((meet_min mz.1).mp mz.2).2 x hx fun l hl => ?_
      obtain ⟨v, hv, vl⟩ := mu.hits l hl
      exact ⟨v, su v hv, fun e => c (e ▸ hv), vl⟩
  · rintro ⟨so, y, hy, p, _⟩
    have := sorted_one so ((h.mem y).mp hy).1 p
    rw [this]; exact hy
end Rp

/-! Who hangs ill. -/
namespace Rp
open PySem PySem.Spec PyProof.Rows L2
end Rp

/-! An orchard hung anew after a picking. -/
namespace Rp
open PySem PySem.Spec PyProof.Rows L2 TL RZ
def illN (G : Gr) (lk row : List Str) : List Str := (illsG G lk row).map (·.1)
structure AnewIn (G : Gr) (lk row : List Str) : Prop where
  ok : okGr G
  okh : okH G
  gl : ∀ p ∈ G, p.1 ∈ lk
  rl : ∀ z ∈ row, z ∈ lk
  ll : lk.length < 64
  lr : row.length < 64
  nd : row.Nodup
end Rp

/-! {name: number for name, number in pairs} -/
namespace Rp
open PySem PySem.Spec PyProof.Rows L2
def prI (p : Str × Int) : PyData := .tuple [.str p.1, .int p.2]
def priV (ps : List (Str × Int)) : List (Key × V) := ps.map fun p => (.inr p.1, .int p.2)
def priM (ps : List (Str × Int)) : Mp := ps.map fun p => (p.1, .int p.2)
theorem priV_put {ps : List (Str × Int)} (nd : (ps.map (·.1)).Nodup) {i : Nat} {p : Str × Int} (h : ps[i]? = some p) : putK ((priV ps).take i) (.inr p.1) (.int p.2) = (priV ps).take (i + 1) := by
  have hv : (priV ps)[i]? = some (.inr p.1, .int p.2) := by unfold priV; rw [List.getElem?_map, h]; rfl
  unfold putK
  rw [if_neg, take_more hv]
  rw [List.any_eq_true]
  rintro ⟨kv, hm, e⟩
  have e := of_decide_eq_true e
  obtain ⟨j, hj⟩ := List.getElem?_of_mem hm
  have ji : j < i := by
    have := (List.getElem?_eq_some_iff.mp hj).1
    rw [List.length_take] at this
    omega
  rw [List.getElem?_take_of_lt ji] at hj
  unfold priV at hj
  rw [List.getElem?_map] at hj
  obtain ⟨q, eq, rfl⟩ := Option.map_eq_some_iff.mp hj
  have e : q.1 = p.1 := Sum.inr.inj e
  obtain ⟨hj', ej⟩ := List.getElem?_eq_some_iff.mp eq
  obtain ⟨hi', ei⟩ := List.getElem?_eq_some_iff.mp h
  have := List.pairwise_iff_getElem.mp nd j i (by simpa using hj') (by simpa using hi') ji
  rw [List.getElem_map, List.getElem_map, ej, ei] at this
  exact this e
theorem pri_at {K : PySem.W.Frag} {H : Hp} (ps : List (Str × Int)) : MapAt K H (priV ps) (mpK (priM ps)) := by
  unfold priV priM mpK
  refine ⟨by simp, ?_⟩
  induction ps with
  | nil => exact .nil
  | cons p l ih => exact .cons (.int _) ih
/-- the pairs, where they lie -/
theorem pri_ks {K : PySem.W.Frag} {F : Frm K} {hd : Addr → Prop} {H : Hp} {l : Lv} (B : Bs F hd H) : ∀ {vs : List V} {ps : List (Str × Int)}, DzAll K (lvH F hd H l) vs (ps.map prI) → ∃ ks : List Addr, vs = ks.map V.ref ∧ ks.length = ps.length ∧ ∀ (j : Nat) (a : Addr) (p : Str × Int), ks[j]? = some a → ps[j]? = some p → SqT K H a [.str p.1, .int p.2]
  | _, [], .nil => ⟨[], rfl, rfl, by simp⟩
  | _, p :: ps, .cons h t => by
    obtain ⟨ks, e1, e2, e3⟩ := pri_ks B t
    have s : Same (lvH F hd H l) H := by cases l <;> first | exact ((vis_rd B).trans rd_nt).trans nt_in | exact rd_nt.trans nt_in
    cases h with
    | @tup a vs _ hs nD ha =>
      cases ha with
      | cons h1 t1 =>
        cases t1 with
        | cons h2 t2 =>
          cases t2
          cases h1
          cases h2
          refine ⟨a :: ks, by rw [e1]; rfl, by simp [e2], fun j b q ej eq => ?_⟩
          cases j with
          | zero =>
            have : b = a := by simpa using ej.symm
            have e : q = p := by simpa using eq.symm
            rw [this, e]
            exact Same.seqT s hs
          | succ j => exact e3 j b q (by simpa using ej) (by simpa using eq)
theorem pri_dc {K : PySem.W.Frag} {H1 : Hp} {a : Addr} {ks : List Addr} {ps : List (Str × Int)} {σ : L2.St} {it i j : Nat} (hl : SqL K H1 a (ks.map V.ref)) (hv : σ[it]? = some (some (.ref a))) (li : i < σ.length) (lj : j < σ.length) (ij : i ≠ j) (ni : it ≠ i) (nj : it ≠ j) (len : ks.length = ps.length) (hp : ∀ (n : Nat) (b : Addr) (p : Str × Int), ks[n]? = some b → ps[n]? = some p → SqT K H1 b [.str p.1, .int p.2])
    (nd : (ps.map (·.1)).Nodup) (few : ps.length ≤ 1000) {Q : VK} (fin : ∀ D H', Same H1 H' → H1 D = none → H' D = some (.dK (priV ps)) → Q (.ref D) H') :
    tDc (iAny K (tVar it)) (gSq K 2 (gCons (gName i) (gCons (gName j) gNil))) tYes (tVar i) (tVar j) [i, j] σ H1 Q := by
  refine ⟨_, hv, a, rfl, .inl ⟨⟨_, hl⟩, fun D nD => ?_⟩⟩
  have lv : (ks.map V.ref).length = ps.length := by rw [List.length_map]; exact len
  have lp : (priV ps).length = ps.length := by simp [priV]
  refine ⟨fun n m H => m = ps.length - n ∧ n ≤ ps.length ∧ Same H1 H ∧ H D = some (.dK ((priV ps).take n)), ⟨ps.length, by simp, Nat.zero_le _, Same.new nD, by rw [upd_same]; rfl⟩, ?_⟩
  rintro n m H ⟨rfl, hn, sH, eD⟩
  have wk := walk_list (K := K) (a := a) (xs := ks.map V.ref)
  by_cases lt : n < ps.length
  · obtain ⟨p, ep⟩ : ∃ p, ps[n]? = some p := ⟨_, List.getElem?_eq_getElem lt⟩
    obtain ⟨b, eb⟩ : ∃ b, ks[n]? = some b := ⟨_, List.getElem?_eq_getElem (by omega)⟩
    refine .inr ⟨wk.goes n H (by rw [lv]; exact lt) (sH.seq hl), fun H' => Same H1 H' ∧ H' D = some (.dK ((priV ps).take (n + 1))), fun H' h => ⟨ps.length - (n + 1), by omega, rfl, by omega, h.1, h.2⟩, fun v H' y => ?_⟩
    obtain ⟨rfl, ev⟩ := wk.yields n H v H' (by rw [lv]; exact lt) (sH.seq hl) y
    rw [List.getElem?_map, eb] at ev
    have ev : V.ref b = v := Option.some.inj ev
    subst ev
    have hb := Same.seqT sH (hp n b p eb ep)
    have wl : (L2.wipe σ [i, j]).length = σ.length := wipe_length σ [i, j]
    refine .inl ⟨b, [.str p.1, .int p.2], rfl, hb, rfl, _, _, rfl, _, _, rfl, rfl, ?_, ?_⟩
    · refine List.ext_getElem? fun k => ?_
      rw [wipe_at, wipe_at, List.length_set, List.length_set, wl]
      by_cases ck : k ∈ [i, j]
      · rw [if_pos ck, if_pos ck]
      · rw [if_neg ck, if_neg ck]
        have k1 : i ≠ k := fun e => ck (by simp [e])
        have k2 : j ≠ k := fun e => ck (by simp [e])
        rw [List.getElem?_set_ne k2, List.getElem?_set_ne k1, wipe_at, if_neg ck]
    · simp only [tYes, ↓reduceIte]
      refine ⟨.str p.1, by rw [List.getElem?_set_ne (Ne.symm ij), List.getElem?_set_self (by rw [wl]; exact li)], .int p.2, by rw [List.getElem?_set_self (by rw [List.length_set, wl]; exact lj)], (priV ps).take n, .inr p.1, rfl, eD, by rw [List.length_take, lp, sizeLine_eq]; omega, ?_, ?_⟩
      · intro c o e
        by_cases ec : c = D
        · rw [ec, nD] at e; cases e
        · rw [upd_ne ec]
          exact sH c o e
      · rw [upd_same, priV_put nd ep]
  · have en : n = ps.length := by omega
    subst en
    rw [← lp, List.take_length] at eD
    exact .inl ⟨by have := wk.stops H (sH.seq hl); rw [lv] at this; exact this, fin D H sH nD eD⟩
section
variable {K : PySem.W.Frag} {E : XK}
/-- name = {a: b for a, b in pairs} -/
def sDcP (it i j k : Nat) : TDs := fun _ P δ => ∃ ps : List (Str × Int), δ.v[it]? = some (.dat (.list (ps.map prI))) ∧ i < δ.v.length ∧ j < δ.v.length ∧ i ≠ j ∧ it ≠ i ∧ it ≠ j ∧ (ps.map (·.1)).Nodup ∧ ps.length ≤ 1000 ∧ P.nx ⟨δ.v.set k (.obj (.map (mpK (priM ps)))), δ.n⟩
instance (priority := 1200) {it i j k : Nat} : PuS K E (tAsg (tDc (iAny K (tVar it)) (gSq K 2 (gCons (gName i) (gCons (gName j) gNil))) tYes (tVar i) (tVar j) [i, j]) (gName k)) (sDcP it i j k) where
  mono h := fun ⟨ps, a, b, c, d, e, f, g, m, q⟩ => ⟨ps, a, b, c, d, e, f, g, m, h.nx _ q⟩
  run {F hd σ H δ P D} hE r e := fun ⟨ps, ev, li, lj, ij, ni, nj, nd, few, q⟩ => by
    obtain ⟨v, h1, h2⟩ := r.vars it _ ev
    have h3 : RV K F hd H .V v (.list (ps.map prI)) := h2
    obtain ⟨a, vs, rfl, hs, ha⟩ := h3.seq r.bs (.inl rfl)
    obtain ⟨ks, rfl, len, hp⟩ := pri_ks (l := .V) r.bs ha
    rcases hs with hs | hs
    · refine pri_dc (nt_in.seq hs.2) h1 (by rw [r.len]; exact li) (by rw [r.len]; exact lj) ij ni nj len hp nd few fun D' H' sH nD eD => ?_
      have fr := r.fresh nD
      have r' := r.same sH
      exact e.nx _ _ _ _ (Kp.of_same sH).go (r'.setObj (i := k) (v := .ref D') (o := .map (mpK (priM ps))) ⟨D', _, rfl, by rw [vis_new fr.1 fr.2.1]; exact eD, pri_at ps⟩) q
    · cases hs.1
end
end Rp

/-! The orchard that is known by hand. -/
namespace Rp
open PySem PySem.Spec PyProof.Rows L2 TL RZ
section
variable {a b c d : Str} (ab : a ≠ b) (ac : a ≠ c) (ad : a ≠ d) (bc : b ≠ c) (bd : b ≠ d) (cd : c ≠ d)
end
end Rp

/-! The orchard that is known by hand: its rows, one by one. -/
namespace Rp
open PySem PySem.Spec PyProof.Rows L2 TL RZ
theorem LeastRow.len {ls M : List (List Str)} (h : LeastRow ls M) : M.length ≤ ls.length := by
  classical
  let f : List Str → List Str := fun y => if e : ∃ z ∈ M, z.Perm y then Classical.choose e else []
  have sub : ∀ z ∈ M, z ∈ ls.map f := fun z hz => by
    obtain ⟨sz, y, hy, p, _⟩ := (h.mem z).mp hz
    refine List.mem_map.mpr ⟨y, hy, ?_⟩
    have e : ∃ z ∈ M, z.Perm y := ⟨z, hz, p⟩
    have ef : f y = Classical.choose e := dif_pos e
    rw [ef]
    obtain ⟨hm, hp⟩ := Classical.choose_spec e
    exact sorted_one ((h.mem _).mp hm).1 sz (hp.trans p.symm)
  have := sub_few h.nd sub
  rwa [List.length_map] at this
theorem HungOf'.okGr {R G : Gr} (h : HungOf' R G) (ok : okGr R) : okGr G := by
  refine ⟨?_, fun p hp => ?_⟩
  · have := h.names.length_eq
    rw [List.length_map, List.length_map] at this
    rw [this]; exact ok.1
  · obtain ⟨r, hr, _, m⟩ := h.lots p hp
    refine ⟨Nat.le_trans m.len (ok.2 r hr).1, fun z hz => ?_⟩
    obtain ⟨y, hy, q⟩ := m.from_ hz
    rw [q.length_eq]
    exact (ok.2 r hr).2 y hy
section
variable {a b c d : Str} (ab : a ≠ b) (ac : a ≠ c) (ad : a ≠ d) (bc : b ≠ c) (bd : b ≠ d) (cd : c ≠ d)
end
end Rp

/-! set(xs), xs a list of texts, and sorted of it. -/
namespace Rp
open PySem PySem.Spec PyProof.Rows L2 PySem.Froz
section
variable {P : Program} {w : World} {A : Around} {E : Value → Shared → Prop} {s : Shared}
/-- some texts, so many at most, that are just these -/
def JustOf (zs l : List Str) (m : Nat) : Prop := (∀ x, x ∈ l ↔ x ∈ zs) ∧ l.length ≤ m
theorem JustOf.more {zs l : List Str} {i : Nat} {k : Str} (h : JustOf (zs.take i) l i) (e : zs[i]? = some k) : JustOf (zs.take (i + 1)) (withName k l) (i + 1) := by
  have ez : zs.take (i + 1) = zs.take i ++ [k] := take_more e
  refine ⟨fun x => ?_, ?_⟩
  · rw [withName_mem, h.1 x, ez, List.mem_append, List.mem_singleton]
    exact Or.comm
  · have := h.2
    unfold withName
    split
    · omega
    · rw [List.length_cons]; omega
end
section
variable {X : Cx}
def rSetLT (K : PySem.W.Frag) (P : Program) (w : World) : List V → Hp → VK → Prop := fun xs H Q => ∃ (l : Addr) (zs : List Str), xs = [V.ref l] ∧ SqL K H l (zs.map V.str) ∧ zs.length < 64 ∧ ∀ a m, H a = none → JustOf zs m zs.length → m.Nodup → Q (.ref a) (upd H a (SetNO P w a m))
end
section
variable {K : PySem.W.Frag} {E : XK} {P : Program} {w : World}
def dSetT (wa : TRd) : TD := fun X δ Q => wa X δ fun l x δ1 => ∃ zs : List Str, x = .list (zs.map .str) ∧ zs.length < 64 ∧ ∀ ys : List Str, sortedS ys = true → ys.Nodup → (∀ k, k ∈ ys ↔ k ∈ zs) → Q (.list (ys.map .str)) δ1
instance {t : TE} {wa : TRd} [p : PuR K E t wa] : PuE K E (tCB (rSortNO P w) (tCons (tCB (rSetLT K P w) (tCons t tNil)) tNil)) (dSetT wa) where
  mono h := p.mono fun _ _ _ ⟨z, a, b, q⟩ => ⟨z, a, b, fun M m1 m2 m3 => h _ _ (q M m1 m2 m3)⟩
  run hE r q := un1 (t := t) hE r q fun l x δ1 v hd1 H1 k1 r1 d1 ⟨zs, ex, le, q⟩ => by
    subst ex
    obtain ⟨a, vs, rfl, hs, ha⟩ := d1.seq r1.bs (.inl rfl)
    have ev := strs_of ha
    subst ev
    rcases hs with hs | hs
    · refine ⟨a, zs, rfl, nt_in.seq hs.2, le, fun S m nS jo nd => ?_⟩
      obtain ⟨k2, r2, s2⟩ := r1.new (SetNO P w S m) nS
      refine ⟨S, m, rfl, upd_same, by have := jo.2; omega, fun ys p pm so np => ?_⟩
      refine newLst r2 np (dz_strs ys) ?_
      exact Out.kp (k1.trans k2) (q ys so (pm.nodup_iff.mpr nd) fun k => by rw [pm.mem_iff]; exact jo.1 k)
    · cases hs.1
end
end Rp

/-! xs[i] = v on a list of one's own; a list of texts told anew is one's own. -/
namespace Rp
open PySem PySem.Spec PyProof.Rows L2
section
variable {K : PySem.W.Frag} {E : XK}
/-- a def that tells a list of texts made anew -/
def lCallS (s : WF) (w : TDa) : TDa := fun X δ Q => w X δ fun ds δ1 => s.wp ds 0 (fun d _ => ∃ zs : List Str, d = .list (zs.map .str) ∧ Q (zs.map .str) δ1) (fun _ _ => False)
instance {al : List Bool} {s : WF} {t : TA} {w : TDa} [p : PuA K E al t w] : PuN K E (tCall (spFN K al s) [] E0 t) (lCallS s w) where
  mono h := p.mono fun _ _ q => WF.mono (fun _ _ ⟨zs, e, q⟩ => ⟨zs, e, h _ _ q⟩) (fun _ _ z => z) q
  run {F hd σ H δ Q} hE r q := p.run hE r (p.mono (fun ds δ1 q vs hd1 H1 k1 r1 d1 => by
    show spFN K al s (vs ++ []) H1 _ _
    rw [List.append_nil]
    refine ⟨vis F hd1 H1, ds, ((vis_rd r1.bs).trans rd_nt).trans nt_in, ArgsV.same (fun _ _ e => e) nt_in d1, WF.mono (fun d _ ⟨zs, ez, q⟩ es ed p us H' sH np hp dd => ?_) (fun _ _ z => z.elim) q⟩
    rw [ez] at ed
    cases ed
    have ev := strs_of dd
    subst ev
    obtain ⟨f1, f2, f3⟩ := r1.fresh np
    have r2 := r1.same sH
    have back : H p = none := k1.back f3 np
    refine q p _ hd1 H' (k1.trans (.of_same sH)) r2 ?_ f1 ⟨f2, back⟩ hp (dz_strs zs)
    refine r1.grow (n := δ1.n) (fun b o e _ => sH b o e) (fun _ z => .inl z) (fun b z => z.elim .inl fun z => .inr (by rw [z]; exact np)) (fun b z => ?_) (fun b t => (r1.cat b t).same sH)
    rcases z with z | z
    · have := r1.bs.hs b z
      cases e : H1 b with
      | none => rw [e] at this; cases this
      | some o => rw [sH _ _ e]; rfl
    · rw [z, hp]; rfl) q)
theorem DzAll.set {H : Hp} {v : V} {d : PyData} : ∀ {vs : List V} {ds : List PyData} {n : Nat}, DzAll K H vs ds → Dz K H v d → DzAll K H (vs.set n v) (ds.set n d)
  | _, _, _, .nil, _ => by simp only [List.set_nil]; exact .nil
  | _, _, 0, .cons _ t, h => .cons h t
  | _, _, _ + 1, .cons a t, h => .cons a (DzAll.set t h)
/-- xs[i] = v -/
def sSetIx (i j b : Nat) : TDs := fun _ P δ => ∃ ds k n d, δ.v[i]? = some (.own ds) ∧ δ.v[j]? = some (.dat (.int k)) ∧ ixN ds.length k = some n ∧ δ.v[b]? = some (.dat d) ∧ P.nx ⟨δ.v.set i (.own (ds.set n d)), δ.n⟩
instance {i j b : Nat} : PuS K E (tAsg (tVar b) (gSub (tVar i) (tVar j) rSetL)) (sSetIx i j b) where
  mono h := fun ⟨ds, k, n, d, a, b, c, e, q⟩ => ⟨ds, k, n, d, a, b, c, e, h.nx _ q⟩
  run {F hd σ H δ P D} hE r e := fun ⟨ds, k, n, d, h1, h2, h3, h4, q⟩ => by
    obtain ⟨v, g1, g2⟩ := r.vars b _ h4
    obtain ⟨x, i1, i2⟩ := r.vars j _ h2
    obtain ⟨a, us, o1, o2, o3, o4⟩ := r.vars i _ h1
    have i2 : Dz K (vis F hd H) x (.int k) := i2
    cases i2
    have g2 : Dz K (vis F hd H) v d := g2
    obtain ⟨gg, rr⟩ := r.store (vs := us) h1 o1 (DzAll.set (n := n) o4 g2)
    exact ⟨v, g1, _, o1, _, i1, a, us, k, n, rfl, rfl, o3, by rw [DzAll.len o4]; exact h3, e.nx _ _ _ _ gg rr q⟩
/-- two lists told anew, looked at, the first changed; what comes behind -/
def sSegC (i : Nat) (s1 s2 : WF) (wa1 wa2 : TDa) (wc : TDt) (u : TDs) : TDs := fun X P δ => i < δ.v.length ∧
  wa1 X δ fun ds1 δ1 => s1.wp ds1 0 (fun d1 _ => (∃ es1, d1 = .list es1 ∧ es1.length < sizeLine) ∧ wa2 X δ1 fun ds2 δ2 => s2.wp ds2 0 (fun d2 _ => (∃ es2, d2 = .list es2) ∧
    wc X ⟨δ2.v.set i (.dat (.list [d1, d2])), δ2.n⟩ fun b δ4 => b = false ∧ u X P ⟨δ.v.set i .no, δ4.n⟩) (fun _ _ => False)) (fun _ _ => False)
instance (priority := 3000) {i : Nat} {al1 al2 : List Bool} {s1 s2 : WF} {ta1 ta2 : TA} {wa1 wa2 : TDa} {tc : TT} {wc : TDt} {tr tu : TS} {u : TDs} {z : Str}
    [p1 : PuA K E al1 ta1 wa1] [p2 : PuA K E al2 ta2 wa2] [p4 : PuT K E tc wc] [p5 : PuS K E tu u] :
    PuS K E (tSeq (tAsg (tLst (tCons (tCall (spFN K al1 s1) [] E0 ta1) (tCons (tCall (spFN K al2 s2) [] E0 ta2) tNil))) (gName i)) (tSeq (tIfS tc tr tNext) (tSeq (tDrop (tBM K "list" rAppend (tOp (rIx K) (tVar i) (tC (.int 0))) (tCons (tC (.str z)) tNil))) tu)))
      (sSegC i s1 s2 wa1 wa2 wc u) where
  mono h := fun ⟨e3, q⟩ => ⟨e3, p1.mono (fun _ _ => WF.mono (fun _ _ ⟨a, q⟩ => ⟨a, p2.mono (fun _ _ => WF.mono (fun _ _ ⟨a, q⟩ => ⟨a, p4.mono (fun _ _ ⟨e, q⟩ => ⟨e, p5.mono h q⟩) q⟩) (fun _ _ z => z)) q⟩) (fun _ _ z => z)) q⟩
  run {F hd σ H δ P D} hE r e := fun ⟨e3, q⟩ => by
    refine p1.run hE r (p1.mono (fun ds1 δ1 q vs1 hd1 H1 k1 r1 d1 => ?_) q)
    show spFN K al1 s1 (vs1 ++ []) H1 _ _
    rw [List.append_nil]
    refine ⟨vis F hd1 H1, ds1, vis_in r1, ArgsV.same (fun _ _ e => e) nt_in d1, WF.mono (fun _ _ q es1 ed1 a1 us1 H2 sH2 na1 ha1 dd1 => ?_) (fun _ _ z => z.elim) q⟩
    obtain ⟨⟨es1', ed1', l1⟩, q⟩ := q
    subst ed1
    cases ed1'
    have r2 := r1.same sH2
    refine p2.run hE r2 (p2.mono (fun ds2 δ2 q vs2 hd3 H3 k3 r3 d3 => ?_) q)
    show spFN K al2 s2 (vs2 ++ []) H3 _ _
    rw [List.append_nil]
    refine ⟨vis F hd3 H3, ds2, vis_in r3, ArgsV.same (fun _ _ e => e) nt_in d3, WF.mono (fun _ _ q es2 ed2 a2 us2 H4 sH4 na2 ha2 dd2 => ⟨by simp; rw [sizeLine_eq]; decide, fun p0 np0 => ?_⟩) (fun _ _ z => z.elim) q⟩
    obtain ⟨_, q⟩ := q
    subst ed2
    have f1 := r1.fresh na1
    have f2 := r3.fresh na2
    have ha3 : H3 a1 = some (.lst us1) := k3.kp _ _ ha1 f1.2.2
    have ha4 := sH4 _ _ ha3
    have r4 := r3.same sH4
    have kH : ∀ b o, H b = some o → ¬ F.T b → H4 b = some o := fun b o h t => sH4 _ _ (k3.kp _ _ (sH2 _ _ (k1.kp _ _ h t)) t)
    have ba1 : H a1 = none := k1.back f1.2.2 na1
    have v1 : Dz K (vis F hd3 H4) (.ref a1) (.list es1) := by
      have x1 : Dz K (vis F hd1 H2) (.ref a1) (.list es1) := .lst (.inl (.inl (r1.seen2 na1 ha1))) (DzAll.same (over_vis r1 fun b o h _ => sH2 b o h) dd1)
      exact Dz.same (vis_same r3.bs sH4) (Dz.same (vis_go r2.bs k3.go) x1)
    have v2 : Dz K (vis F hd3 H4) (.ref a2) (.list es2) := .lst (.inl (.inl (r3.seen2 na2 ha2))) (DzAll.same (over_vis r3 fun b o h _ => sH4 b o h) dd2)
    obtain ⟨k5, r5, s5⟩ := r4.new (.lst [V.ref a1, V.ref a2]) np0
    have vd : Dz K (vis F hd3 (upd H4 p0 (.lst [V.ref a1, V.ref a2]))) (.ref p0) (.list [.list es1, .list es2]) := .lst (.inl (.inl (r4.seen np0))) (DzAll.same s5 (.cons v1 (.cons v2 .nil)))
    have r6 := r5.setDat (i := i) vd
    refine p4.run hE r6 (p4.mono (fun b δ4 ⟨eb, q⟩ hd9 H9 k9 r9 => ?_) q)
    subst eb
    have up : ∀ {b o}, ¬ F.T b → H4 b = some o → H9 b = some o := fun {b o} t h => k9.kp _ _ (by rw [upd_ne (ne_of_none h np0)]; exact h) t
    have tp0 := (r4.fresh np0).2.2
    have kH9 : ∀ b o, H b = some o → ¬ F.T b → H9 b = some o := fun b o h t => up t (kH b o h t)
    have h0 : H9 p0 = some (.lst [V.ref a1, V.ref a2]) := k9.kp _ _ upd_same tp0
    have h1 : H9 a1 = some (.lst us1) := up f1.2.2 ha4
    have s0 : (σ.set i (some (V.ref p0)))[i]? = some (some (V.ref p0)) := List.getElem?_set_self (by rw [r.len]; exact e3)
    have lus : us1.length < sizeLine := by rw [DzAll.len dd1]; exact l1
    rw [if_neg (by decide)]
    simp only [tNext, tSeq]
    refine ⟨.ref p0, s0, .inl ⟨p0, _, 0, .ref a1, rfl, rfl, .inl (.inl h0), rfl, .inl ⟨rfl, _, .inl (.inl h1)⟩, a1, us1, _, rfl, rfl, h1, lus, ?_⟩⟩
    have kk : ∀ b o, H b = some o → ¬ F.T b → (upd H9 a1 (.lst (us1 ++ [V.str z]))) b = some o := fun b o h' t => by rw [upd_ne (ne_of_none h' ba1)]; exact kH9 b o h' t
    have rz := (r.kp (n := δ4.n) kk (fun b t => (r9.cat b t).lst h1 (fun z => f1.2.2 (by rw [← z]; exact t)))).drop (i := i) (o := some (V.ref p0))
    exact p5.run hE rz (e.go rz ⟨fun b o e t _ => kk b o e t, fun _ z => .inl z⟩) q
end
end Rp

/-! a, b, c = [..], x, y; a, b = x, [..] by a real tuple. -/
namespace Rp
open PySem PySem.Spec PyProof.Rows L2
/-- len, where the list stays one's own -/
def rLenO (K : PySem.W.Frag) : List V → Hp → VK → Prop := rLenA K
section
variable {K : PySem.W.Frag} {E : XK}
def sPar3F (i j l : Nat) (wa : TDa) (wb wc : TD) : TDs := fun X P δ => wa X δ fun ds δ1 => wb X δ1 fun y δ2 => wc X δ2 fun z δ3 => P.nx ⟨((δ3.v.set i (.own ds)).set j (.dat y)).set l (.dat z), δ3.n⟩
instance (priority := 1900) {i j l : Nat} {ta tb tc : TE} {wa : TDa} {wb wc : TD} [pa : PuN K E ta wa] [pb : PuE K E tb wb] [pc : PuE K E tc wc] : PuS K E (tPar3 i j l (tCons ta (tCons tb (tCons tc tNil)))) (sPar3F i j l wa wb wc) where
  mono h := pa.mono fun _ _ => pb.mono fun _ _ => pc.mono fun _ _ q => h.nx _ q
  run {F hd σ H δ P D} hE r e q := pa.run hE r (pa.mono (fun ds δ1 q p vs hd1 H1 k1 r1 r2 np n0 h1 dd => pb.run (F := F.more p) hE (r1.mk_more r2 np) (pb.mono (fun y δ2 q v hd2 H2 k2 r3 d3 => pc.run (F := F.more p) hE r3 (pc.mono (fun z δ3 q u hd3 H3 k3 r4 d4 => by
    have k4 := k2.trans k3
    have nT : ¬ F.T p := fun t => by have := F.ta p t; rw [n0.1] at this; cases this
    have nN : ¬ F.N p := fun z => np (r1.nH p z)
    have hp : hd3 p := r4.nH p (.inr rfl)
    obtain ⟨rF, r0⟩ := r4.un_more nN
    have ee : (fun b => (hd3 b ∧ b ≠ p) ∨ b = p) = hd3 := by
      funext b
      by_cases c : b = p
      · simp [c, hp]
      · simp [c]
    have g2 : Go F (fun b => hd1 b ∨ b = p) H1 hd3 H3 := ⟨fun b o h t _ => k4.kp b o h t, fun b z => .inl (k4.less b z)⟩
    have dd2 : DzAll K (vis F hd3 H3) vs ds := DzAll.same (vis_go r2.bs g2) dd
    have rO : Rep K F (fun b => (hd3 b ∧ b ≠ p) ∨ b = p) (σ.set i (some (.ref p))) H3 ⟨δ3.v.set i (.own ds), δ3.n⟩ := r0.setOwn (i := i) (by rw [ee]; exact rF) (fun z => z.2 rfl) (k4.kp _ _ h1 nT) (by rw [ee]; exact dd2)
    rw [ee] at rO
    have d4 : Dz K (vis F hd3 H3) u z := d4
    have d3' : Dz K (vis F hd3 H3) v y := Dz.same (vis_go r3.bs k3.go) d3
    refine ⟨.ref p, v, u, rfl, e.nx _ _ _ _ ⟨fun b o h t n => k4.kp b o (k1.kp b o h t) t, fun b z => ?_⟩ ((rO.setDat (i := j) d3').setDat (i := l) d4) q⟩
    rcases k4.less b z with z | z
    · exact .inl (k1.less b z)
    · right; rw [z]; exact n0.2) q)) q)) q)
def sTupE (i j : Nat) (wa : TD) (wb : TDa) : TDs := fun X P δ => wa X δ fun x δ1 => wb X δ1 fun ds δ2 => P.nx ⟨(δ2.v.set i (.dat x)).set j (.own ds), δ2.n⟩
instance (priority := 2050) {i j : Nat} {ta tb : TE} {wa : TD} {wb : TDa} [pa : PuE K E ta wa] [pb : PuN K E tb wb] : PuS K E (tAsg (tTupZ (tCons ta (tCons tb tNil))) (gTup K 2 (gCons (gName i) (gCons (gName j) gNil)))) (sTupE i j wa wb) where
  mono h := pa.mono fun _ _ => pb.mono fun _ _ q => h.nx _ q
  run {F hd σ H δ P D} hE r e q := pa.run hE r (pa.mono (fun x δ1 q v hd1 H1 k1 r1 d1 => pb.run hE r1 (pb.mono (fun ds δ2 q p vs hd2 H2 k2 r2 r3 np n0 h1 dd => ⟨by rw [sizeLine_eq]; simp, fun t ob nt _ => by
    have g : Go F hd1 H1 (fun b => hd2 b ∨ b = p) H2 := ⟨fun b o h t _ => k2.kp b o h t, fun b z => z.elim (fun z => .inl (k2.less b z)) fun z => .inr (by rw [z]; exact n0.2)⟩
    have dv2 := Dz.same (vis_go r1.bs k2.go) d1
    have dv3 := Dz.same (vis_go r1.bs g) d1
    have rA := r2.setDat (i := i) dv2
    have rB := r3.setDat (i := i) dv3
    obtain ⟨_, r4, _⟩ := (rA.setOwn (i := j) rB np h1 dd).new (.frz ob (.tup [v, .ref p])) nt
    have g3 := (k1.go).trans r1.bs rB.bs g
    refine ⟨t, [v, .ref p], rfl, .inl (.inr ⟨ob, upd_same⟩), rfl, _, _, rfl, _, _, rfl, rfl, e.nx _ _ _ _ ⟨fun b o h t n => (Same.new nt) b o (g3.kp b o h t n), g3.less⟩ r4 q⟩⟩) q)) q)
/-- len(xs), xs one's own, which stays so -/
def dLenO (i : Nat) : TD := fun _ δ Q => ∃ ds, δ.v[i]? = some (.own ds) ∧ Q (.int (ds.length : Nat)) δ
instance {i : Nat} : PuE K E (tCB (rLenO K) (tCons (tVar i) tNil)) (dLenO i) where
  mono h := fun ⟨ds, e, q⟩ => ⟨ds, e, h _ _ q⟩
  run {F hd σ H δ Q} _ r := fun ⟨ds, e, q⟩ => by
    obtain ⟨a, us, o1, o2, o3, o4⟩ := r.vars i _ e
    refine ⟨_, o1, _, us.length, rfl, .inl ⟨us, .inl (.inl o3), rfl⟩, ?_⟩
    rw [DzAll.len o4]
    exact q _ _ _ .refl r (.int _)
/-- xs[k], xs one's own, which stays so -/
def dIxO (i j : Nat) : TD := fun _ δ Q => ∃ ds k d, δ.v[i]? = some (.own ds) ∧ δ.v[j]? = some (.dat (.int k)) ∧ L2.atI ds k = some d ∧ Q d δ
theorem dz_at {H : Hp} : ∀ {vs : List V} {ds : List PyData} {n : Nat} {d : PyData}, DzAll K H vs ds → ds[n]? = some d → ∃ v, vs[n]? = some v ∧ Dz K H v d
  | _, _, _, _, .nil, e => by simp at e
  | _, _, 0, _, .cons a _, e => by
    simp at e; subst e
    exact ⟨_, rfl, a⟩
  | _, _, n + 1, _, .cons _ t, e => by
    obtain ⟨v, h1, h2⟩ := dz_at (n := n) t (by simpa using e)
    exact ⟨v, by simpa using h1, h2⟩
instance {i j : Nat} : PuE K E (tOp (rIxL K) (tVar i) (tVar j)) (dIxO i j) where
  mono h := fun ⟨ds, k, d, a, b, c, q⟩ => ⟨ds, k, d, a, b, c, h _ _ q⟩
  run {F hd σ H δ Q} _ r := fun ⟨ds, k, d, e1, e2, e3, q⟩ => by
    obtain ⟨a, us, o1, o2, o3, o4⟩ := r.vars i _ e1
    obtain ⟨x, i1, i2⟩ := r.vars j _ e2
    have i2 : Dz K (vis F hd H) x (.int k) := i2
    cases i2
    unfold L2.atI at e3
    obtain ⟨n, en, e4⟩ := Option.bind_eq_some_iff.mp e3
    obtain ⟨v, v1, v2⟩ := dz_at o4 e4
    refine ⟨_, o1, _, i1, a, us, k, v, rfl, rfl, .inl (.inl o3), ?_, q _ _ _ .refl r v2⟩
    unfold L2.atI
    rw [DzAll.len o4, en]
    exact v1
end
end Rp

/-! Orchards of a law that draws lots from a pool; rows that are wished for. -/
namespace Rp
open PySem PySem.Spec PyProof.Rows L2 TL RZ
/-- an orchard of such a law, of these names -/
structure GrewB (zs : List Str) (G : Gr) : Prop where
  pm : (G.map (·.1)).Perm zs
  rise : (G.map (·.1)).Pairwise leS
  lots : ∀ p ∈ G, p.2.length ≤ 4 ∧ LeastRow p.2 p.2 ∧ ∀ z ∈ p.2, z.length ≤ 26 ∧ z.Nodup ∧ ∀ x ∈ z, x ∈ zs ∧ x ≠ p.1
end Rp

/-! Nobody hangs ill for a row if and only if it is the picking. -/
namespace Rp
open PySem PySem.Spec PyProof.Rows L2 TL RZ
end Rp

/-! What a law makes of an orchard that it hangs anew; z in d, d a dict by texts. -/
namespace Rp
open PySem PySem.Spec PyProof.Rows L2 TL RZ
/-- hung by those ahead in the row, or by none, where it hangs ill; else as it is -/
def dueOk (ill row : List Str) (p q : Str × List (List Str)) : Prop := q.1 = p.1 ∧ if p.1 ∈ ill then (if p.1 ∈ row then ∃ y : List Str, y.Perm (aheadG row p.1) ∧ sortedS y = true ∧ q.2 = [y] else q.2 = []) else q.2 = p.2
def rInT (x y : V) (H : Hp) (Q : VK) : Prop := ∃ (z : Str) (a : Addr) (kvs : List (Key × V)), x = .str z ∧ y = .ref a ∧ H a = some (.dK kvs) ∧ Q (.bl (valV kvs (.inr z)).isSome) H
section
variable {K : PySem.W.Frag} {E : XK}
def dInT (i : Nat) (w : TRd) : TD := fun X δ Q => w X δ fun _ y δ2 => ∃ (m : Mp) (z : Str), δ2.v[i]? = some (.obj (.map (mpK m))) ∧ y = .str z ∧ Q (.bool (lookM m z).isSome) δ2
instance {i : Nat} {t : TE} {w : TRd} [p : PuR K E t w] : PuE K E (tOp rInT t (tVar i)) (dInT i w) where
  mono h := p.mono fun _ _ _ ⟨m, z, e, f, q⟩ => ⟨m, z, e, f, h _ _ q⟩
  run {F hd σ H δ Q} hE r q := un1 (t := t) hE r q fun l x δ1 v hd1 H1 k1 r1 d1 ⟨m, z, e, ey, q⟩ => by
    subst ey
    have := d1.str r1.bs
    subst this
    obtain ⟨u, h1, a, kvs, rfl, h2, h3⟩ := r1.vars i _ e
    refine ⟨_, h1, z, a, kvs, rfl, rfl, vis_in r1 _ _ h2, ?_⟩
    rcases MapAt.look h3 z with ⟨e1, e2⟩ | ⟨w, d', e1, e2, dw⟩
    · rw [e1]; rw [e2] at q; exact q _ _ _ k1 r1 (.bl _)
    · rw [e1]; rw [e2] at q; exact q _ _ _ k1 r1 (.bl _)
/-- a, b = dict(..), [..] -/
def sParMN (i j : Nat) (wa : TDm) (wb : TDa) : TDs := fun X P δ => wa X δ fun m δ1 => wb X δ1 fun ds δ2 => P.nx ⟨(δ2.v.set i (.obj (.map (mpK m)))).set j (.own ds), δ2.n⟩
instance (priority := 1300) {i j : Nat} {ta tb : TE} {wa : TDm} {wb : TDa} [pa : PuM K E (tCB (rDictP K) (tCons ta tNil)) wa] [pb : PuN K E tb wb] : PuS K E (tPar i j (tCons (tCB (rDictP K) (tCons ta tNil)) (tCons tb tNil))) (sParMN i j wa wb) where
  mono h := pa.mono fun _ _ => pb.mono fun _ _ q => h.nx _ q
  run {F hd σ H δ P D} hE r e q := pa.run hE r (pa.mono (fun m δ1 q v hd1 H1 k1 r1 d1 => pb.run hE r1 (pb.mono (fun ds δ2 q p vs hd2 H2 k2 r2 r3 np n0 h1 dd => by
    have g : Go F hd1 H1 (fun b => hd2 b ∨ b = p) H2 := ⟨fun b o h t _ => k2.kp b o h t, fun b z => z.elim (fun z => .inl (k2.less b z)) fun z => .inr (by rw [z]; exact n0.2)⟩
    have dv2 := ObAt.same (vis_go r1.bs k2.go) d1
    have dv3 := ObAt.same (vis_go r1.bs g) d1
    have rA := r2.setObj (i := i) dv2
    have rB := r3.setObj (i := i) dv3
    refine ⟨v, .ref p, rfl, e.nx _ _ _ _ ?_ (rA.setOwn (i := j) rB np h1 dd) q⟩
    exact (k1.go).trans r1.bs rB.bs g) q)) q)
end
end Rp

/-! An orchard hung anew is the one that the law makes; nobody hangs ill in it. -/
namespace Rp
open PySem PySem.Spec PyProof.Rows L2 TL RZ
section
variable {zs lk row : List Str} {G D : Gr} (hG : GrewB zs G) (nd : zs.Nodup) (nr : row.Nodup) (sub : ∀ z ∈ row, z ∈ zs) (rl : row.length ≤ 24) (hD : F2 (dueOk (illN G lk row) row) G D)
include hG nr sub rl hD
end
end Rp

/-! Orchards between the one hung latest and the one hung soonest; no later than the one, no sooner than the other. -/
namespace Rp
open PySem PySem.Spec PyProof.Rows L2 TL RZ
section
variable {L X S : Gr} {lk : List Str} (h1 : ∀ o f, f ∈ ripeG L o → f ∈ ripeG X o) (h2 : ∀ o f, f ∈ ripeG X o → f ∈ ripeG S o)
include h1 h2
end
end Rp

/-! Hung a bit later, a bit sooner, or between. -/
namespace Rp
open PySem PySem.Spec PyProof.Rows L2 TL RZ
structure LateIn (X : Gr) (f : Str) : Prop where
  ok : okGr X
  nd : (X.map (·.1)).Nodup
  few : X.length ≤ 12
  lots : ∀ p ∈ X, LeastRow p.2 p.2 ∧ p.2.length ≤ 35 ∧ ∀ z ∈ p.2, z.Nodup ∧ z.length ≤ 12 ∧ okT z ∧ ∀ x ∈ z, x ∈ X.map (·.1) ∧ x ≠ p.1
  names : okT (X.map (·.1))
  mem : f ∈ X.map (·.1)
end Rp

/-! One lot less, one name more: not ripe by what's left. -/
namespace Rp
open PySem PySem.Spec PyProof.Rows L2 TL RZ
end Rp

/-! Hung by less than a lot. -/
namespace Rp
open PySem PySem.Spec PyProof.Rows L2 TL RZ
end Rp

/-! for x, y in zip(s, t), s and t tuples by name; some lots of a tuple of lots. -/
namespace Rp
open PySem PySem.Spec PyProof.Rows L2 TL RZ
section
variable {K : PySem.W.Frag} {E : XK}
def iZpT (i j : Nat) : TDi := fun _ δ Q => ∃ ds es, δ.v[i]? = some (.dat (.tuple ds)) ∧ δ.v[j]? = some (.dat (.tuple es)) ∧ Q .SV (zpD ds es) δ
instance (priority := 1500) {i j : Nat} : PuF K E (RZ.iZipA K (tCons (tVar i) (tCons (tVar j) tNil))) (iZpT i j) where
  mono h := fun ⟨ds, es, a, b, q⟩ => ⟨ds, es, a, b, h _ _ _ q⟩
  run {F hd σ H δ R} hE r := fun ⟨ds, es, e1, e2, q⟩ => by
    obtain ⟨v, h1, d1⟩ := r.vars i _ e1
    obtain ⟨u, h2, d2⟩ := r.vars j _ e2
    have d1 : Dz K (vis F hd H) v (.tuple ds) := d1
    have d2 : Dz K (vis F hd H) u (.tuple es) := d2
    refine ⟨v, h1, u, h2, ?_⟩
    cases d1 with
    | @tup a vs _ hs nD ha =>
      cases d2 with
      | @tup b us _ hs2 nD2 hb =>
        have s1 := Same.seqT (vis_rd r.bs) hs
        have s2 := Same.seqT (vis_rd r.bs) hs2
        refine ⟨a, b, vs, us, rfl, .inr ⟨Same.seqT (rd_nt.trans nt_in) s1, Same.seqT (rd_nt.trans nt_in) s2, q _ _ _ .refl r ?_⟩⟩
        rw [show (zpD ds es).length = min vs.length us.length by simp [zpD, DzAll.len ha, DzAll.len hb]]
        exact (walk_zipT rfl).mono (fun H' s => ⟨Same.seqT s.1 s1, Same.seqT s.1 s2⟩) (fun i Ha x Hb _ g y => zp_el (l := .V) (m := .V) r.bs ha hb g.2 y)
end
structure MixIn (L S : Gr) : Prop where
  names : L.map (·.1) = S.map (·.1)
  few : L.length ≤ 12
  lots : ∀ p ∈ L, p.2.length ≤ 20 ∧ ∀ z ∈ p.2, z.length < 60 ∧ okT z ∧ z.Nodup
  more : ∀ p ∈ S, p.2.length ≤ 35 ∧ ∀ z ∈ p.2, z.length < 60 ∧ okT z ∧ z.Nodup
end Rp

/-! The one hung latest, the one hung soonest, and those beside and between. -/
namespace Rp
open PySem PySem.Spec PyProof.Rows L2 TL RZ
section
variable {G L S : Gr} {ps : List Nt} {N : List Str} (eN : N = G.map (·.1)) (gn : N.Nodup) (okh : okH G) (hl : ∀ p ∈ G, ∀ z ∈ p.2, ∀ x ∈ z, x ∈ G.map (·.1) ∧ x ≠ p.1) (hps : PsOf G ps) (pl : ps.length ≤ 10) (lN : N.length ≤ 6) (okN : okT N) (rise : N.Pairwise leS)
include eN gn okh hl hps pl lN okN rise
end
end Rp

/-! dict(zip(xs, ys)), xs a list of texts, ys a list. -/
namespace Rp
open PySem PySem.Spec PyProof.Rows L2
def tDZip (K : PySem.W.Frag) (ta : TA) : TE := fun σ H Q => ta σ H fun vs H1 => ∃ (a b : Addr) (ks : List Str) (ys : List V), vs = [.ref a, .ref b] ∧ SqL K H1 a (ks.map V.str) ∧ SqL K H1 b ys ∧ ks.length = ys.length ∧ ks.length ≤ 1000 ∧
  ∀ p, H1 p = none → Q (.ref p) (upd H1 p (.dK (mergeK [] ((ks.zip ys).map fun q => (.inr q.1, q.2)))))
section
variable {K : PySem.W.Frag} {E : XK}
def mDZip (wa wb : TRd) : TDm := fun X δ Q => wa X δ fun _ x δ1 => wb X δ1 fun m y δ2 => ∃ (ks : List Str) (es : List PyData), x = .list (ks.map .str) ∧ y = .list es ∧ m.ch = .V ∧ ks.length = es.length ∧ ks.length ≤ 1000 ∧ ks.Nodup ∧ Q (ks.zip es) δ2
theorem zip_at {H : Hp} {ks : List Str} {us : List V} {es : List PyData} (l : ks.length = es.length) (d : DzAll K H us es) : MapAt K H ((ks.zip us).map fun q => ((.inr q.1 : Key), q.2)) (mpK (ks.zip es)) := by
  have lu := DzAll.len d
  refine ⟨?_, ?_⟩
  · unfold mpK
    rw [List.map_map, List.map_map]
    have a : (ks.zip us).map (·.1) = ks := List.map_fst_zip (by omega)
    have b : (ks.zip es).map (·.1) = ks := List.map_fst_zip (by omega)
    have c : ∀ {α : Type} (l : List (Str × α)), l.map ((fun x : Key × α => x.1) ∘ fun q : Str × α => ((.inr q.1 : Key), q.2)) = (l.map (·.1)).map Sum.inr := fun l => by rw [List.map_map]; rfl
    rw [c, a]
    have := c (ks.zip es)
    rw [b] at this
    exact this.symm
  · unfold mpK
    rw [List.map_map, List.map_map]
    have a : (ks.zip us).map (·.2) = us := List.map_snd_zip (by omega)
    have b : (ks.zip es).map (·.2) = es := List.map_snd_zip (by omega)
    show DzAll K H ((ks.zip us).map (·.2)) ((ks.zip es).map (·.2))
    rw [a, b]; exact d
instance {ta tb : TE} {wa wb : TRd} [pa : PuR K E ta wa] [pb : PuR K E tb wb] : PuM K E (tDZip K (tCons ta (tCons tb tNil))) (mDZip wa wb) where
  mono h := pa.mono fun _ _ _ => pb.mono fun _ _ _ ⟨ks, es, a, b, c, d, e, f, q⟩ => ⟨ks, es, a, b, c, d, e, f, h _ _ q⟩
  run hE r q := bin2 (ta := ta) (tb := tb) hE r q fun l x m y δ2 v u hd2 H2 k r2 d1 d2 ⟨ks, es, ex, ey, mc, len, few, nd, q⟩ => by
    subst ex ey
    obtain ⟨a, vs, rfl, hs, ha⟩ := d1.seq r2.bs (.inl rfl)
    obtain ⟨b, us, rfl, hs2, hb⟩ := d2.seq r2.bs (.inl rfl)
    have ev := strs_of ha
    subst ev
    have hv := DzAll.upU hb (.inl mc)
    have lu := DzAll.len hv
    rcases hs with hs | hs
    · rcases hs2 with hs2 | hs2
      · refine ⟨a, b, ks, us, rfl, nt_in.seq hs.2, nt_in.seq hs2.2, by omega, few, fun p np => ?_⟩
        have e : mergeK [] ((ks.zip us).map fun q => ((.inr q.1 : Key), q.2)) = (ks.zip us).map fun q => ((.inr q.1 : Key), q.2) := by
          have := merge_nodup (more := (ks.zip us).map fun q => ((.inr q.1 : Key), q.2)) (acc := []) (by
            rw [List.nil_append, List.map_map]
            have c : (ks.zip us).map ((fun x : Key × V => x.1) ∘ fun q : Str × V => ((.inr q.1 : Key), q.2)) = ((ks.zip us).map (·.1)).map Sum.inr := by rw [List.map_map]; rfl
            rw [c, List.map_fst_zip (by omega)]
            unfold List.Nodup at nd ⊢
            rw [List.pairwise_map]
            exact nd.imp fun h e => h (Sum.inr.inj e))
          simpa using this
        rw [e]
        obtain ⟨k2, r3, s2⟩ := r2.new (.dK ((ks.zip us).map fun q => ((.inr q.1 : Key), q.2))) np
        exact q _ _ _ (k.trans k2) r3 ⟨p, _, rfl, r2.seen np, (zip_at len hv).same s2⟩
      · cases hs2.1
    · cases hs.1
/-- name = dict(zip(xs, ys)) -/
instance (priority := 1150) {ta tb : TE} {i : Nat} {w : TDm} [p : PuM K E (tDZip K (tCons ta (tCons tb tNil))) w] : PuS K E (tAsg (tDZip K (tCons ta (tCons tb tNil))) (gName i)) (sMap w i) where
  mono h := p.mono fun _ _ q => h.nx _ q
  run hE r e q := p.run hE r (p.mono (fun m δ1 q v hd1 H1 k1 r1 d1 => e.nx _ _ _ _ k1.go (r1.setObj d1) q) q)
end
end Rp

/-! a, b = dict(zip(..)), [..] by a real tuple. -/
namespace Rp
open PySem PySem.Spec PyProof.Rows L2
section
variable {K : PySem.W.Frag} {E : XK}
def sTupN (i j : Nat) (wa : TDm) (wb : TDa) : TDs := fun X P δ => wa X δ fun m δ1 => wb X δ1 fun ds δ2 => P.nx ⟨(δ2.v.set i (.obj (.map (mpK m)))).set j (.own ds), δ2.n⟩
theorem tupN_any {i j : Nat} {ta tb : TE} {wa : TDm} {wb : TDa} (pa : PuM K E ta wa) (pb : PuN K E tb wb) : PuS K E (tAsg (tTupZ (tCons ta (tCons tb tNil))) (gTup K 2 (gCons (gName i) (gCons (gName j) gNil)))) (sTupN i j wa wb) where
  mono h := pa.mono fun _ _ => pb.mono fun _ _ q => h.nx _ q
  run {F hd σ H δ P D} hE r e q := pa.run hE r (pa.mono (fun m δ1 q v hd1 H1 k1 r1 d1 => pb.run hE r1 (pb.mono (fun ds δ2 q p vs hd2 H2 k2 r2 r3 np n0 h1 dd => ⟨by rw [sizeLine_eq]; simp, fun t ob nt _ => by
    have g : Go F hd1 H1 (fun b => hd2 b ∨ b = p) H2 := ⟨fun b o h t _ => k2.kp b o h t, fun b z => z.elim (fun z => .inl (k2.less b z)) fun z => .inr (by rw [z]; exact n0.2)⟩
    have dv2 := ObAt.same (vis_go r1.bs k2.go) d1
    have dv3 := ObAt.same (vis_go r1.bs g) d1
    have rA := r2.setObj (i := i) dv2
    have rB := r3.setObj (i := i) dv3
    obtain ⟨_, r4, _⟩ := (rA.setOwn (i := j) rB np h1 dd).new (.frz ob (.tup [v, .ref p])) nt
    have g3 := (k1.go).trans r1.bs rB.bs g
    refine ⟨t, [v, .ref p], rfl, .inl (.inr ⟨ob, upd_same⟩), rfl, _, _, rfl, _, _, rfl, rfl, e.nx _ _ _ _ ⟨fun b o h t n => (Same.new nt) b o (g3.kp b o h t n), g3.less⟩ r4 q⟩⟩) q)) q)
instance (priority := 2250) {i j : Nat} {ta : TA} {tb : TE} {wa : TDm} {wb : TDa} [pa : PuM K E (tDZip K ta) wa] [pb : PuN K E tb wb] : PuS K E (tAsg (tTupZ (tCons (tDZip K ta) (tCons tb tNil))) (gTup K 2 (gCons (gName i) (gCons (gName j) gNil)))) (sTupN i j wa wb) := tupN_any pa pb
end
end Rp

/-! Orchards hung anew beside told pickings: what a law's own defs promise. -/
namespace Rp
open PySem PySem.Spec PyProof.Rows L2 TL RZ
theorem OPs.pm {x : PyData} {o : Option (List Str)} (h : OPs x o) : OPm x o := by
  cases o with
  | none => exact h
  | some z => obtain ⟨y, e, p, _⟩ := h; exact ⟨y, e, p⟩
/-- an orchard of the same fruits that picks the row -/
structure PicksB (G : Gr) (lk row : List Str) (X : Gr) : Prop where
  nm : X.map (·.1) = G.map (·.1)
  ok : okGr X
  pk : pickG X lk = row
  tx : ∀ p ∈ X, ∀ z ∈ p.2, okT z
end Rp

/-! An orchard called by other names. -/
namespace Rp
open PySem PySem.Spec PyProof.Rows L2 TL RZ
section
variable {ks fs : List Str} (l : ks.length = fs.length)
include l
end
end Rp

/-! for i in range(a, b), a and b written out. -/
namespace Rp
open PySem PySem.Spec PyProof.Rows L2
section
variable {K : PySem.W.Frag} {E : XK}
def rg2D (a : Int) (m : Nat) : List PyData := (List.range m).map fun i => .int (a + (i : Nat))
theorem rg2_len (a : Int) (m : Nat) : (rg2D a m).length = m := by simp [rg2D]
def iRg2 (a b : Int) : TDi := fun _ δ Q => (-(2 ^ 62) ≤ a ∧ a < 2 ^ 62 ∧ -(2 ^ 62) ≤ b ∧ b < 2 ^ 62) ∧ Q .V (rg2D a (b - a).toNat) δ
instance {a b : Int} : PuF K E (iRng2 (tCons (tC (.int a)) (tCons (tC (.int b)) tNil))) (iRg2 a b) where
  mono h := fun ⟨e, q⟩ => ⟨e, h _ _ _ q⟩
  run {F hd σ H δ R} hE r := fun ⟨e, q⟩ => by
    refine ⟨a, b, rfl, e, q _ _ _ .refl r ?_⟩
    rw [rg2_len]
    refine walk_range.mono (fun _ _ => trivial) (fun i Ha x Hb hi _ y => ?_)
    obtain ⟨rfl, e⟩ := y
    subst e
    refine ⟨fun _ _ e => e, .int (a + (i : Nat)), ?_, .int _⟩
    unfold rg2D
    rw [List.getElem?_map, List.getElem?_range hi]; rfl
end
end Rp

/-! told = [f(..), f(x=..), ..]; if not same(..): return; told[0].append('..'); told[1].clear() -/
namespace Rp
open PySem PySem.Spec PyProof.Rows L2
section
variable {K : PySem.W.Frag} {E : XK}
end
end Rp

/-! sorted(xs, key=lambda x: ..): the lambda is asked for each thing of a list, two calls down. -/
namespace Rp
open PySem PySem.Spec PyProof.Rows L2
section
variable {X : Cx} {pins : List (Addr × Obj)} {σ : L2.St} {H : Hp} {s : Shared}
/-- sorted(e, key=lambda p: body) -/
def tSortK (K : PySem.W.Frag) (P : Addr) (q : Str) (te tb : TE) : TE := fun σ H Q => te σ H fun x H1 => LamX.TabS H1 P q ∧ ∀ H2, Off P H1 H2 → LamX.TabS H2 P q →
  ∃ (l : Addr) (β : Type) (bs : List β) (fv : β → V) (kf : β → Int), x = .ref l ∧ SqL K H2 l (bs.map fv) ∧ (∀ p ∈ bs, tb (σ ++ [some (fv p)]) H2 fun v H' => v = .int (kf p) ∧ H' = H2) ∧ ∀ (M : List β) (a : Addr), M.Perm bs → (M.Pairwise fun p r => kf p ≤ kf r) → H2 a = none → Q (.ref a) (upd H2 a (.lst (M.map fv)))
end
end Rp

/-! Comprehensions of two fors. -/
namespace Rp
open PySem PySem.Spec PyProof.Rows L2
/-- the inner for of a comprehension, its list at D -/
def InnerK (J1 : It) (g1 : TG) (te : TE) (vs1 : List Nat) (σ2 : L2.St) (H4 : Hp) (D : Addr) (P : Hp → Prop) : Prop := ∃ W1 : Nat → Nat → Hp → Prop, (∃ m, W1 0 m H4) ∧ ∀ j k H, W1 j k H → (J1.stop j H ∧ P H) ∨ (J1.go j H ∧ ∃ Nx1 : Hp → Prop, (∀ H', Nx1 H' → ∃ k', k' < k ∧ W1 (j + 1) k' H') ∧
  ∀ x H', J1.yld j H x H' → g1 x (wipe σ2 vs1) H' fun σ3 H5 => wipe σ3 vs1 = wipe σ2 vs1 ∧ te σ3 H5 fun y H7 => ∃ acc, H7 D = some (.lst acc) ∧ acc.length < sizeLine ∧ Nx1 (upd H7 D (.lst (acc ++ [y]))))
theorem inK {J1 : It} {n1 : Nat} {G1 : Hp → Prop} {Y1 : Nat → Hp → V → Hp → Prop} (w : Walk J1 n1 G1 Y1) {g1 : TG} {te : TE} {vs1 : List Nat} {σ2 : L2.St} {H4 : Hp} {D : Addr} {P : Hp → Prop} (Pv : Nat → Hp → Prop) (h0 : Pv 0 H4) (hG : ∀ j H, j ≤ n1 → Pv j H → G1 H)
    (hs : ∀ j x H H', j < n1 → Pv j H → Y1 j H x H' → g1 x (wipe σ2 vs1) H' fun σ3 H5 => wipe σ3 vs1 = wipe σ2 vs1 ∧ te σ3 H5 fun y H7 => ∃ acc, H7 D = some (.lst acc) ∧ acc.length < sizeLine ∧ Pv (j + 1) (upd H7 D (.lst (acc ++ [y])))) (hd : ∀ H, Pv n1 H → P H) : InnerK J1 g1 te vs1 σ2 H4 D P := by
  refine ⟨fun j k H => k + j = n1 ∧ Pv j H, ⟨n1, rfl, h0⟩, fun j k H ⟨e, p⟩ => ?_⟩
  have good := hG j H (by omega) p
  rcases Nat.lt_or_ge j n1 with lt | ge
  · exact .inr ⟨w.goes j H lt good, Pv (j + 1), fun H' p' => ⟨n1 - (j + 1), by omega, by omega, p'⟩, fun x H' y => hs j x H H' lt p (w.yields j H x H' lt good y)⟩
  · have e : j = n1 := by omega
    subst e
    exact .inl ⟨w.stops H good, hd H p⟩
theorem lc2K {J : It} {n : Nat} {G : Hp → Prop} {Y : Nat → Hp → V → Hp → Prop} (w : Walk J n G Y) {g g1 : TG} {wi1 : TI} {te : TE} {vs vs1 : List Nat} {σ : L2.St} {H1 : Hp} {Q : VK} (Pv : Addr → Nat → Hp → Prop) (h0 : ∀ D, H1 D = none → Pv D 0 (upd H1 D (.lst []))) (hG : ∀ D i H, i ≤ n → Pv D i H → G H)
    (hs : ∀ D i x H H', H1 D = none → i < n → Pv D i H → Y i H x H' → g x (wipe σ vs) H' fun σ2 H2 => wipe σ2 vs = wipe σ vs ∧ wi1 σ2 H2 fun J1 H4 => InnerK J1 g1 te vs1 σ2 H4 D (Pv D (i + 1))) (hd : ∀ D H, H1 D = none → Pv D n H → Q (.ref D) H) :
    ∀ D, H1 D = none → ∃ W : Nat → Nat → Hp → Prop, (∃ m, W 0 m (upd H1 D (.lst []))) ∧ ∀ i m H, W i m H → (J.stop i H ∧ Q (.ref D) H) ∨ (J.go i H ∧ ∃ Nx : Hp → Prop, (∀ H', Nx H' → ∃ m', m' < m ∧ W (i + 1) m' H') ∧ ∀ x H', J.yld i H x H' → g x (wipe σ vs) H' fun σ2 H2 => wipe σ2 vs = wipe σ vs ∧ wi1 σ2 H2 fun J1 H4 => InnerK J1 g1 te vs1 σ2 H4 D Nx) := by
  intro D nD
  refine ⟨fun i m H => m + i = n ∧ Pv D i H, ⟨n, rfl, h0 D nD⟩, fun i m H ⟨e, p⟩ => ?_⟩
  have good := hG D i H (by omega) p
  rcases Nat.lt_or_ge i n with lt | ge
  · exact .inr ⟨w.goes i H lt good, Pv D (i + 1), fun H' p' => ⟨n - (i + 1), by omega, by omega, p'⟩, fun x H' y => hs D i x H H' nD lt p (w.yields i H x H' lt good y)⟩
  · have e : i = n := by omega
    subst e
    exact .inl ⟨w.stops H good, hd D H nD p⟩
theorem tLc2_yes {wi wi1 : TI} {g g1 : TG} {te : TE} {vs vs1 : List Nat} {σ : L2.St} {H : Hp} {Q : VK} (h : wi σ H fun J H1 => ∀ D, H1 D = none → ∃ W : Nat → Nat → Hp → Prop, (∃ m, W 0 m (upd H1 D (.lst []))) ∧ ∀ i m H, W i m H → (J.stop i H ∧ Q (.ref D) H) ∨ (J.go i H ∧ ∃ Nx : Hp → Prop, (∀ H', Nx H' → ∃ m', m' < m ∧ W (i + 1) m' H') ∧ ∀ x H', J.yld i H x H' → g x (wipe σ vs) H' fun σ2 H2 => wipe σ2 vs = wipe σ vs ∧ wi1 σ2 H2 fun J1 H4 => InnerK J1 g1 te vs1 σ2 H4 D Nx)) :
    tLc2 wi g tYes wi1 g1 tYes te vs vs1 σ H Q := by
  unfold tLc2
  simpa only [tYes, if_true, InnerK] using h
section
variable {K : PySem.W.Frag} {E : XK}
theorem Rep.turnD {F : Frm K} {hd : Addr → Prop} {σ : L2.St} {H H1 : Hp} {δ : DS} (r : Rep K F hd σ H δ) {D : Addr} (nD : F.N D) (k : ∀ b o, H b = some o → ¬ F.T b → b ≠ D → H1 b = some o) (eD : (H1 D).isSome = true) {n : Nat} (t : ∀ b, F.T b → CAt F H1 b n) : Rep K F hd σ H1 ⟨δ.v, n⟩ := by
  have hD := r.nH D nD
  have sv : Same (vis F hd H) (vis F hd H1) := fun b o e => by
    have nt := vis_not_t e
    obtain ⟨c, e | e⟩ := vis_some e
    · exact vis_old c e.2
    · rw [vis_new c e.1]; exact k b o e.2 nt (fun z => c (by rw [z]; exact hD))
  have sr : Same (rdH F hd H) (rdH F hd H1) := fun b o e => by
    unfold rdH at e ⊢
    by_cases c : hd b ∨ F.T b
    · rw [if_pos c] at e; cases e
    · rw [if_neg c] at e ⊢
      exact k b o e (fun z => c (.inr z)) (fun z => c (.inl (by rw [z]; exact hD)))
  refine ⟨⟨fun b o e nt => k b o (r.bs.ev b o e nt) nt (fun z => by rw [z, r.bs.hn D hD] at e; cases e), fun b z => (t b z).some, r.bs.hn, fun b z => ?_⟩, r.len, fun i a e => ?_, t, r.nH, r.sep⟩
  · by_cases c : b = D
    · rw [c]; exact eD
    · have := r.bs.hs b z
      cases e : H b with
      | none => rw [e] at this; cases this
      | some o => rw [k b o e (r.bs.not_t z) c]; rfl
  · have h := r.vars i a e
    cases a with
    | no => trivial
    | dat d => exact h.elim fun v h => ⟨v, h.1, Dz.same sv h.2⟩
    | rd d => exact h.elim fun v h => ⟨v, h.1, Dz.same sr h.2⟩
    | own ds =>
      obtain ⟨a, vs, h1, h2, h3, h4⟩ := h
      exact ⟨a, vs, h1, h2, k _ _ h3 (r.bs.not_t h2.1) (fun z => h2.2 (by rw [z]; exact nD)), DzAll.same sv h4⟩
    | tape => exact h
    | obj o => exact h.elim fun v h => ⟨v, h.1, ObAt.same sv h.2⟩
    | down o =>
      obtain ⟨a, ho, h1, h2, h3, h4⟩ := h
      exact ⟨a, ho, h1, h2, k _ _ h3 (r.bs.not_t h2.1) (fun z => h2.2 (by rw [z]; exact nD)), OwnO.same sv h4⟩
def lc2Step (X : XP) (l : Lv) (v : List AV) (vs : List Nat) (wg : TDg) (is1 : List Nat) (wI1 : TDi) (wg1 : TDg) (we : TD) (vs1 : List Nat) : PyData → List PyData → Nat → (List PyData → Nat → Prop) → Prop := fun x acc n k =>
  wg l x ⟨wipeD v vs, n⟩ fun δ2 => wI1 X δ2 fun l1 its1 δ3 => δ3.v = δ2.v ∧ lcOk is1 vs1 δ2.v = true ∧ lcGo (fun y acc n k => wg1 l1 y ⟨wipeD δ2.v vs1, n⟩ fun δ4 => we X δ4 fun z δ5 => δ5.v = δ4.v ∧ acc.length < sizeLine ∧ k (acc ++ [z]) δ5.n) its1 acc δ3.n k
def lLc2 (is : List Nat) (wI : TDi) (wg : TDg) (is1 : List Nat) (wI1 : TDi) (wg1 : TDg) (we : TD) (vs vs1 : List Nat) : TDa := fun X δ Q => wI X δ fun l its δ1 => lcOk is vs δ1.v = true ∧ lcGo (lc2Step X l δ1.v vs wg is1 wI1 wg1 we vs1) its [] δ1.n fun acc n => Q acc ⟨δ1.v, n⟩
def dLc2 (is : List Nat) (wI : TDi) (wg : TDg) (is1 : List Nat) (wI1 : TDi) (wg1 : TDg) (we : TD) (vs vs1 : List Nat) : TD := fun X δ Q => wI X δ fun l its δ1 => lcOk is vs δ1.v = true ∧ lcGo (lc2Step X l δ1.v vs wg is1 wI1 wg1 we vs1) its [] δ1.n fun acc n => Q (.list acc) ⟨δ1.v, n⟩
/-- the state at a turn of the inner for -/
def Pl2 (K : PySem.W.Frag) (F : Frm K) (hd : Addr → Prop) (H4 : Hp) (I : Nat → List PyData → Nat → Prop) (D : Addr) (j : Nat) (H : Hp) : Prop :=
  ∃ n acc ws, (∀ b o, H4 b = some o → ¬ F.T b → b ≠ D → H b = some o) ∧ (∀ b, F.T b → CAt F H b n) ∧ H D = some (.lst ws) ∧ DzAll K (vis F (fun b => hd b ∨ b = D) H) ws acc ∧ I j acc n
theorem lc2_run {wi wi1 : TI} {g g1 : TG} {te : TE} {is is1 : List Nat} {wI wI1 : TDi} {wg wg1 : TDg} {we : TD} {vs vs1 : List Nat} [pI : PuI K E wi wI] [pg : PuG K g is wg] [pI1 : PuF K E wi1 wI1] [pg1 : PuG K g1 is1 wg1] [pe : PuE K E te we] {F : Frm K} {hd : Addr → Prop} {σ : L2.St} {H : Hp} {δ : DS} {Q : VK} (hE : F.E = E) (r : Rep K F hd σ H δ)
    (q : lLc2 is wI wg is1 wI1 wg1 we vs vs1 F.X δ (OutN K F hd σ H Q)) : tLc2 wi g tYes wi1 g1 tYes te vs vs1 σ H Q := by
  refine tLc2_yes (pI.run hE r (pI.mono (fun l its δ1 q J hd1 H1 k1 r1 wk => ?_) q))
  obtain ⟨ok, I, q, hst, hfin⟩ := q
  unfold lcOk at ok
  rw [Bool.and_eq_true, List.all_eq_true, List.all_eq_true] at ok
  have his : ∀ i ∈ is, i ∈ vs := fun i hi => by simpa using ok.1 i hi
  have nown : ∀ i ∈ vs, ∀ x, δ1.v[i]? = some x → hidV x = true → False := fun i hi x e hx => by
    have := ok.2 i hi
    rw [e] at this
    cases x <;> simp [isOwn, hidV] at this hx
  obtain ⟨msub, rm⟩ := r1.min
  refine lc2K wk (Plc K F (hdM F σ δ1.v) H1 I) (fun D nD => ⟨δ1.n, [], [], fun b o h _ => by rw [upd_ne (ne_of_none h nD)]; exact h, fun b t => (r1.cat b t).new nD, upd_same, .nil, q⟩) (fun D i H' hi h => ?_) (fun D i x Ha Hb nD hi hp hy => ?_) (fun D Hg nD hp => ?_)
  · obtain ⟨n, acc, ws, h1, h2, h3, h4, h5⟩ := h
    exact ⟨fun b o e => by obtain ⟨t, e⟩ := nt_some e; exact h1 b o e t, fun b t => (h2 b t).some⟩
  · obtain ⟨n, acc, ws, h1, h2, h3, h4, h5⟩ := hp
    obtain ⟨sab, d, hd', el⟩ := hy
    have h5 := hst i d acc n hd' h5
    have nDT : ¬ F.T D := (r1.fresh nD).2.2
    have eDb : Hb D = some (.lst ws) := sab _ _ h3
    have old : ∀ b o, H1 b = some o → ¬ F.T b → Hb b = some o := fun b o e t => sab _ _ (h1 b o e t)
    have gB : Go F hd1 H1 (fun b => hdM F σ δ1.v b ∨ b = D) Hb := ⟨fun b o e t _ => old b o e t, fun b z => z.elim (fun z => .inl (msub b z)) fun z => .inr (by rw [z]; exact nD)⟩
    have rI : Rep K (F.more D) (fun b => hdM F σ δ1.v b ∨ b = D) σ Hb ⟨δ1.v, n⟩ := rm.inner nD old (by rw [eDb]; rfl) (fun b t => (h2 b t).same sab)
    have visD : ∀ {Hx Hy : Hp}, (∀ b o, ¬ F.T b → b ≠ D → Hx b = some o → Hy b = some o) → Same (vis F (fun b => hdM F σ δ1.v b ∨ b = D) Hx) (vis F (fun b => hdM F σ δ1.v b ∨ b = D) Hy) := fun {Hx Hy} kk b o e => by
      have t := vis_not_t e
      obtain ⟨c, e | e⟩ := vis_some e
      · exact vis_old c e.2
      · rw [vis_new c e.1]; exact kk b o t (fun z => c (.inr z)) e.2
    have h4b := DzAll.same (visD fun b o _ _ e => sab _ _ e) h4
    have elv : RV K (F.more D) (fun b => hdM F σ δ1.v b ∨ b = D) Hb l x d := by
      have := el.rv r1.bs gB
      cases l <;> exact this
    refine pg.run (rI.wipe vs) elv (pg.mono (fun δ2 q σ2 r2 l2 s2 v2 => ⟨wipe_eq his (by rw [l2, wipe_length]) s2, ?_⟩) h5)
    refine pI1.run (F := F.more D) hE r2 (pI1.mono (fun l1 its1 δ3 ⟨ev3, ok1, I1, q1, hst1, hfin1⟩ J1 hd3 H4 k3 r3 wk1 => ?_) q)
    have ndD : (F.more D).N D := .inr rfl
    have hD3 : hd3 D := r3.nH D ndD
    have eD4 : H4 D = some (.lst ws) := k3.kp _ _ eDb nDT
    unfold lcOk at ok1
    rw [Bool.and_eq_true, List.all_eq_true, List.all_eq_true] at ok1
    have his1 : ∀ i ∈ is1, i ∈ vs1 := fun i hi => by simpa using ok1.1 i hi
    have nown1 : ∀ i ∈ vs1, ∀ x, δ2.v[i]? = some x → hidV x = true → False := fun i hi x e hx => by
      have := ok1.2 i hi
      rw [e] at this
      cases x <;> simp [isOwn, hidV] at this hx
    refine inK wk1 (Pl2 K F (hdM F σ δ1.v) H4 I1 D) ⟨δ3.n, acc, ws, fun b o e _ _ => e, r3.cat, eD4, DzAll.same (visD fun b o t _ e => k3.kp b o e t) h4b, q1⟩ (fun j H' hj p => ?_) (fun j y Hc He hj p hy => ?_) fun H' p => ?_
    · obtain ⟨n, acc, ws, p1, p2, p3, p4, p5⟩ := p
      refine ⟨fun b o e => ?_, fun b t => (p2 b t).some⟩
      replace e : rdH (F.more D) hd3 H4 b = some o := e
      unfold rdH at e
      by_cases c : hd3 b ∨ (F.more D).T b
      · rw [if_pos c] at e; cases e
      · rw [if_neg c] at e
        exact p1 b o e (fun z => c (.inr z)) (fun z => c (.inl (by rw [z]; exact hD3)))
    · obtain ⟨n, acc, ws, p1, p2, p3, p4, p5⟩ := p
      obtain ⟨sce, e1, he1, el1⟩ := hy
      have p5 := hst1 j e1 acc n he1 p5
      have keep : ∀ b o, H4 b = some o → ¬ F.T b → b ≠ D → He b = some o := fun b o e t ne => sce _ _ (p1 b o e t ne)
      have eDe : He D = some (.lst ws) := sce _ _ p3
      have r5 : Rep K (F.more D) hd3 σ2 He ⟨δ3.v, n⟩ := r3.turnD ndD keep (by rw [eDe]; rfl) fun b t => (p2 b t).same sce
      have g5 : Go (F.more D) hd3 H4 hd3 He := ⟨fun b o e t nh => keep b o e t (fun z => nh (by rw [z]; exact hD3)), fun b z => .inl z⟩
      have elv1 : RV K (F.more D) hd3 He l1 y e1 := el1.rv r3.bs g5
      rw [ev3] at r5
      refine pg1.run (r5.wipe vs1) elv1 (pg1.mono (fun δ4 q σ3 r6 l6 s6 v6 => ⟨wipe_eq his1 (by rw [l6, wipe_length]) s6, ?_⟩) p5)
      refine pe.run (F := F.more D) hE r6 (pe.mono (fun z δ5 ⟨ev5, la, q⟩ v hd5 H5 k5 r7 dv => ?_) q)
      have p4e := DzAll.same (visD fun b o t _ e => k5.kp b o (sce _ _ e) t) p4
      have eD5 : H5 D = some (.lst ws) := k5.kp _ _ eDe nDT
      refine ⟨ws, eD5, by rw [DzAll.len p4]; exact la, δ5.n, acc ++ [z], ws ++ [v], fun b o e t ne => ?_, fun b t => ?_, upd_same, ?_, q⟩
      · rw [upd_ne ne]; exact k5.kp b o (keep b o e t ne) t
      · exact CAt.lst (r7.cat b t) eD5 fun z => nDT (by rw [← z]; exact t)
      · refine DzAll.snoc (DzAll.same (visD fun b o _ ne e => by rw [upd_ne ne]; exact e) p4e) (Dz.same (visD fun b o _ ne e => by rw [upd_ne ne]; exact e) (Dz.same (fun b o e => ?_) dv))
        have e : vis F hd5 H5 b = some o := e
        obtain ⟨c, e2⟩ := vis_some e
        have c' : ¬ (hdM F σ δ1.v b ∨ b = D) := fun z => c (by
          rcases z with (⟨i, ds, z1, z2⟩ | z) | z
          · have iv : i ∉ vs := fun h => nown i h ds z1.1 z1.2
            have ii : i ∉ is := fun h => iv (his i h)
            have e2' : δ2.v[i]? = some ds := by rw [v2 i ii]; show (wipeD δ1.v vs)[i]? = _; rw [wipeD_at iv]; exact z1.1
            have iv1 : i ∉ vs1 := fun h => nown1 i h ds e2' z1.2
            have ii1 : i ∉ is1 := fun h => iv1 (his1 i h)
            have e5 : δ5.v[i]? = some ds := by rw [ev5, v6 i ii1]; show (wipeD δ2.v vs1)[i]? = _; rw [wipeD_at iv1]; exact e2'
            exact (r7.hid ⟨e5, z1.2⟩ (by rw [s6 i ii1, wipe_at, if_neg iv1, s2 i ii, wipe_at, if_neg iv]; exact z2)).1
          · exact r7.nH b (.inl z)
          · exact r7.nH b (.inr z))
        rcases e2 with e2 | e2
        · exact vis_old c' e2.2
        · rw [vis_new c' e2.1]; exact e2.2
    · obtain ⟨n, acc, ws, p1, p2, p3, p4, p5⟩ := p
      exact ⟨n, acc, ws, fun b o e t => p1 b o (k3.kp b o (old b o e t) t) t (ne_of_none e nD), p2, p3, p4, hfin1 acc n p5⟩
  · obtain ⟨n, acc, ws, h1, h2, h3, h4, h5⟩ := hp
    have h5 := hfin acc n h5
    have f := r1.fresh nD
    have rk := rm.kp h1 h2
    refine h5 D ws (hdM F σ δ1.v) Hg (k1.trans ⟨h1, msub⟩) rk (rm.grow h1 (fun _ z => .inl z) (fun b z => z.elim .inl fun z => .inr (by rw [z]; exact nD)) (fun b z => ?_) h2) (fun z => f.1 (msub D z)) ⟨f.2.1, k1.back f.2.2 nD⟩ h3 h4
    rcases z with z | z
    · exact rk.bs.hs b z
    · rw [z, h3]; rfl
instance {wi wi1 : TI} {g g1 : TG} {te : TE} {is is1 : List Nat} {wI wI1 : TDi} {wg wg1 : TDg} {we : TD} {vs vs1 : List Nat} [pI : PuI K E wi wI] [pg : PuG K g is wg] [pI1 : PuF K E wi1 wI1] [pg1 : PuG K g1 is1 wg1] [pe : PuE K E te we] : PuE K E (tLc2 wi g tYes wi1 g1 tYes te vs vs1) (dLc2 is wI wg is1 wI1 wg1 we vs vs1) where
  mono h := pI.mono fun _ _ _ ⟨e, q⟩ => ⟨e, lcGo_mono _ _ _ (fun _ _ q => h _ _ q) q⟩
  run hE r q := lc2_run hE r (pI.mono (fun _ _ _ ⟨e, q⟩ => ⟨e, lcGo_mono _ _ _ (fun _ _ q => Out.n q) q⟩) q)
end
end Rp

/-! sorted(xs, key=lambda x: ys.index(x[0])), xs rows of texts, none bare. -/
namespace Rp
open PySem PySem.Spec PyProof.Rows L2
/-- where a row's head stands -/
def hdIx (ys : List Str) : List Str → Nat
  | [] => 0
  | y :: _ => ixO ys y
abbrev rwD (z : List Str) : PyData := .list (z.map .str)
section
variable {K : PySem.W.Frag} {E : XK}
def dSortIx (P : Addr) (q : Str) (i n : Nat) (w : TD) : TD := fun X δ Q => X.tb P q ∧ w X δ fun x δ1 => n = δ1.v.length ∧ i < n ∧ ∃ (zs : List (List Str)) (ys : List Str), x = .list (zs.map rwD) ∧ (∀ z ∈ zs, ∃ y t, z = y :: t ∧ y ∈ ys) ∧ lkAt δ1 i ys ∧
  ∀ M : List (List Str), M.Perm zs → (M.Pairwise fun a b => hdIx ys a ≤ hdIx ys b) → Q (.list (M.map rwD)) δ1
theorem rows_of {H : Hp} : ∀ {vs : List V} {zs : List (List Str)}, DzAll K H vs (zs.map rwD) → ∃ ps : List (V × List Str), vs = ps.map (·.1) ∧ zs = ps.map (·.2) ∧ ∀ p ∈ ps, Dz K H p.1 (rwD p.2)
  | _, [], h => by cases h; exact ⟨[], rfl, rfl, fun _ z => nomatch z⟩
  | _, z :: zs, h => by
    cases h with
    | @cons v _ _ _ a t =>
      obtain ⟨ps, rfl, rfl, al⟩ := rows_of t
      exact ⟨(v, z) :: ps, rfl, rfl, fun p hp => by
        rcases List.mem_cons.mp hp with rfl | hp
        · exact a
        · exact al p hp⟩
theorem all_rows {H : Hp} : ∀ {ps : List (V × List Str)}, (∀ p ∈ ps, Dz K H p.1 (rwD p.2)) → DzAll K H (ps.map (·.1)) ((ps.map (·.2)).map rwD)
  | [], _ => .nil
  | p :: ps, h => .cons (h p List.mem_cons_self) (all_rows fun q hq => h q (List.mem_cons_of_mem _ hq))
instance {P : Addr} {q : Str} {i n : Nat} {t : TE} {w : TD} [p : PuE K E t w] : PuE K E (tSortK K P q t (tIdx K (tVar i) (tCons (tOp (rIx K) (tVar n) (tC (.int 0))) tNil))) (dSortIx P q i n w) where
  mono h := fun ⟨e, z⟩ => ⟨e, p.mono (fun _ _ ⟨a, b, zs, ys, c, d, f, z⟩ => ⟨a, b, zs, ys, c, d, f, fun M hM hp => h _ _ (z M hM hp)⟩) z⟩
  run {F hd σ H δ Q} hE r := fun ⟨hp, z⟩ => by
    refine p.run hE r (p.mono (fun x δ1 ⟨en, il, zs, ys, ex, hz, lk, fin⟩ v hd1 H1 k1 r1 d1 => ?_) z)
    refine ⟨(r1.cat P (F.tbT P q hp)).1 q hp, fun H2 off T2 => ?_⟩
    obtain ⟨k2, r2⟩ := r1.tabled hp off T2
    subst ex
    have d2 : Dz K (vis F hd1 H2) v (.list (zs.map rwD)) := Dz.same (vis_go r1.bs k2.go) d1
    obtain ⟨a, vs, rfl, hs, ha⟩ := RV.seq (l := .V) r2.bs d2 (.inl rfl)
    have hs' : SqL K H2 a vs := by
      rcases hs with hs | hs
      · exact nt_in.seq hs.2
      · cases hs.1
    obtain ⟨ps, rfl, rfl, al⟩ := rows_of ha
    have nl : n = σ.length := by rw [r2.len]; exact en
    obtain ⟨d, hv, it⟩ := lk
    obtain ⟨lv, e1, dz⟩ : ∃ lv, σ[i]? = some (some lv) ∧ Dz K H2 lv d := by
      rcases hv with hv | hv
      · obtain ⟨lv, e1, dz⟩ := r2.vars i _ hv
        exact ⟨lv, e1, Dz.same (vis_in r2) dz⟩
      · obtain ⟨lv, e1, dz⟩ := r2.vars i _ hv
        exact ⟨lv, e1, Dz.same (rd_nt.trans nt_in) dz⟩
    refine ⟨a, _, ps, (·.1), fun p => (hdIx ys p.2 : Nat), rfl, hs', fun p hpm => ?_, fun M b hM hw nb => ?_⟩
    · obtain ⟨y, t, et, ym⟩ := hz p.2 (List.mem_map.mpr ⟨p, hpm, rfl⟩)
      obtain ⟨c, vs, ec, hc, hd⟩ := RV.seq (l := .V) r2.bs (al p hpm) (.inl rfl)
      have hc : SqL K H2 c vs := by
        rcases hc with hc | hc
        · exact nt_in.seq hc.2
        · cases hc.1
      have ev := strs_of hd
      subst ev
      obtain ⟨g1, g2⟩ := ixO_at ym
      have atn : (σ ++ [some p.1])[n]? = some (some p.1) := by rw [nl, List.getElem?_append_right (Nat.le_refl _), Nat.sub_self]; rfl
      have ati : (σ ++ [some p.1])[i]? = some (some lv) := by rw [List.getElem?_append_left (by rw [← nl]; exact il)]; exact e1
      have kx : hdIx ys p.2 = ixO ys y := by rw [et]; rfl
      have hd0 : ∀ {R : V → Hp → Prop}, R (.str y) H2 → tOp (rIx K) (tVar n) (tC (.int 0)) (σ ++ [some p.1]) H2 R := fun {R} z => by
        refine ⟨p.1, atn, ?_⟩
        show rIx K p.1 (.int 0) H2 R
        exact .inl ⟨c, _, 0, .str y, ec, rfl, hc, by rw [et]; exact atI_ok (k := 0) rfl (by simp), z⟩
      show tIdx K (tVar i) (tCons (tOp (rIx K) (tVar n) (tC (.int 0))) tNil) _ H2 _
      refine ⟨lv, ati, ?_⟩
      rcases it with rfl | rfl
      · cases dz with
        | @lst a vs _ hs ha =>
          have ev := strs_of ha
          subst ev
          exact .inl ⟨.inl ⟨rfl, _, hs.sq⟩, hd0 ⟨a, ys, y, _, rfl, rfl, hs.sq, g1, g2, by show _ = V.int ((hdIx ys p.2 : Nat) : Int); rw [kx], rfl⟩⟩
      · cases dz with
        | @tup a vs _ hs nd ha =>
          have ev := strs_of ha
          subst ev
          exact .inr ⟨⟨a, rfl, nd⟩, hd0 ⟨a, ys, y, _, rfl, rfl, hs, g1, g2, by show _ = V.int ((hdIx ys p.2 : Nat) : Int); rw [kx], rfl⟩⟩
    · have alM : ∀ p ∈ M, Dz K (vis F hd1 H2) p.1 (rwD p.2) := fun p hpm => al p (hM.mem_iff.mp hpm)
      have dn := all_rows alM
      have q := fin (M.map (·.2)) (hM.map _) (by rw [List.pairwise_map]; exact hw.imp fun {p r} z => by have z : ((hdIx ys p.2 : Nat) : Int) ≤ (hdIx ys r.2 : Nat) := z; omega)
      exact newN r2 nb dn (Out.n (Out.kp (k1.trans k2) q))
end
end Rp

/-! What merged promises. -/
namespace Rp
open PySem PySem.Spec PyProof.Rows L2
/-- rows, as lists or tuples -/
inductive RowsD : List PyData → List (List Str) → Prop
  | nil : RowsD [] []
  | cons {e : PyData} {r : List Str} {es : List PyData} {rs : List (List Str)} : Items e (r.map .str) → RowsD es rs → RowsD (e :: es) (r :: rs)
theorem RowsD.at {es : List PyData} {rs : List (List Str)} (h : RowsD es rs) : ∀ {i : Nat} {e : PyData}, es[i]? = some e → ∃ r, rs[i]? = some r ∧ Items e (r.map .str) := by
  induction h with
  | nil => intro i e h; simp at h
  | cons a t ih =>
    intro i e h
    cases i with
    | zero => simp at h; subst h; exact ⟨_, rfl, a⟩
    | succ i => simp at h; obtain ⟨r, h1, h2⟩ := ih h; exact ⟨r, by simpa using h1, h2⟩
theorem RowsD.len {es : List PyData} {rs : List (List Str)} (h : RowsD es rs) : es.length = rs.length := by
  induction h with
  | nil => rfl
  | cons _ _ ih => simp [ih]
end Rp

/-! A law whose program makes lambdas in two defs. -/
namespace Rp
open PySem PySem.Spec PyProof.Rows L2
section
variable {K : PySem.W.Frag} {E : XK}
end
end Rp

/-! Two orchards side by side, a row told by its sides. -/
namespace Rp
open PySem PySem.Spec PyProof.Rows L2
end Rp

/-! min of texts; a copy of a dict. -/
namespace Rp
open PySem PySem.Spec PyProof.Rows L2
def rMinS (K : PySem.W.Frag) : List V → Hp → VK → Prop := fun vs H Q => ∃ (a : Addr) (z : Str) (zs : List Str), vs = [V.ref a] ∧ SqL K H a ((z :: zs).map V.str) ∧ ∀ m, m ∈ z :: zs → (∀ y ∈ z :: zs, leS m y) → Q (.str m) H
section
variable {K : PySem.W.Frag} {E : XK}
def fMinS : Lv → PyData → (PyData → Prop) → Prop := fun _ x Q => ∃ (z : Str) (zs : List Str), x = .list ((z :: zs).map .str) ∧ ∀ m, m ∈ z :: zs → (∀ y ∈ z :: zs, leS m y) → Q (.str m)
instance {t : TE} {w : TRd} [p : PuR K E t w] : PuE K E (tCB (rMinS K) (tCons t tNil)) (dB1 fMinS w) where
  mono h := p.mono fun _ _ _ ⟨z, zs, i, q⟩ => ⟨z, zs, i, fun m a b => h _ _ (q m a b)⟩
  run hE r q := un1 (t := t) hE r q fun l x δ1 v hd1 H1 k1 r1 d1 ⟨z, zs, ix, q⟩ => by
    subst ix
    obtain ⟨a, vs, rfl, hs, ha⟩ := d1.seq r1.bs (.inl rfl)
    have := strs_of ha
    subst this
    rcases hs with hs | hs
    · exact ⟨a, z, zs, rfl, nt_in.seq hs.2, fun m hm le => q m hm le _ _ _ k1 r1 (.str _)⟩
    · cases hs.1
/-- x is None, x a thing or a kept error -/
def dIsNoX (i : Nat) : TD := fun _ δ Q => (∃ d, δ.v[i]? = some (.dat d) ∧ Q (.bool (isNo d)) δ) ∨ ∃ C d, δ.v[i]? = some (.obj (.exc C d)) ∧ Q (.bool false) δ
instance (priority := 1200) {i : Nat} : PuE K E (tOp rIsN (tVar i) (tC .non)) (dIsNoX i) where
  mono h := fun e => by
    rcases e with ⟨d, e, q⟩ | ⟨C, d, e, q⟩
    · exact .inl ⟨d, e, h _ _ q⟩
    · exact .inr ⟨C, d, e, h _ _ q⟩
  run {F hd σ H δ Q} _ r := fun e => by
    rcases e with ⟨d, e, q⟩ | ⟨C, d, e, q⟩
    · obtain ⟨v, h1, dz⟩ := r.vars i _ e
      refine ⟨v, h1, rfl, ?_⟩
      rw [isNo_ok (Dz.dp dz)]
      exact q _ _ _ .refl r (.bl _)
    · obtain ⟨v, h1, a, dd, w, rfl, g1, g2, g3⟩ := r.vars i _ e
      exact ⟨.ref a, h1, rfl, q _ _ _ .refl r (.bl _)⟩
/-- dict(d) -/
def rDictD : List V → Hp → VK → Prop := fun xs H Q => ∃ (a : Addr) (kvs : List (Key × V)), xs = [.ref a] ∧ Rd H a (.dK kvs) ∧ ∀ p, H p = none → Q (.ref p) (upd H p (.dK kvs))
def mDictD (w : TDm) : TDm := w
instance {t : TE} {w : TDm} [p : PuM K E t w] : PuM K E (tCB rDictD (tCons t tNil)) (mDictD w) where
  mono := p.mono
  run hE r q := p.run hE r (p.mono (fun m δ1 q v hd1 H1 k1 r1 d1 => by
    obtain ⟨a, kvs, rfl, h1, h2⟩ := d1
    refine ⟨a, kvs, rfl, .inl (vis_in r1 _ _ h1), fun p np => ?_⟩
    obtain ⟨k2, r3, s2⟩ := r1.new (.dK kvs) np
    exact q _ _ _ (k1.trans k2) r3 ⟨p, _, rfl, r1.seen np, h2.1, DzAll.same s2 h2.2⟩) q)
end
end Rp

/-! told = [f(..), ..]; if ..: return; told[0].append(..); what comes behind; calls by names the other way round -/
namespace Rp
open PySem PySem.Spec PyProof.Rows L2
section
variable {K : PySem.W.Frag} {E : XK}
def sSegJ (i : Nat) (s1 : WF) (wa1 wr : TDa) (wc : TDt) (u : TDs) : TDs := fun X P δ => i < δ.v.length ∧
  wa1 X δ fun ds1 δ1 => s1.wp ds1 0 (fun d1 _ => (∃ es1, d1 = .list es1 ∧ es1.length < sizeLine) ∧ wr X δ1 fun ds3 δ3 => ds3.length ≤ 100 ∧
    wc X ⟨δ3.v.set i (.dat (.list (d1 :: ds3))), δ3.n⟩ fun b δ4 => b = false ∧ u X P ⟨δ.v.set i .no, δ4.n⟩) (fun _ _ => False)
instance (priority := 3000) {i : Nat} {al1 : List Bool} {s1 : WF} {ta1 : TA} {tq : TA} {wa1 wr : TDa} {tc : TT} {wc : TDt} {tr tu : TS} {u : TDs} {z : Str} [p1 : PuA K E al1 ta1 wa1] [p3 : PuV K E tq wr] [p4 : PuT K E tc wc] [p5 : PuS K E tu u] :
    PuS K E (tSeq (tAsg (tLst (tCons (tCall (spFN K al1 s1) [] E0 ta1) tq)) (gName i)) (tSeq (tIfS tc tr tNext) (tSeq (tDrop (tBM K "list" rAppend (tOp (rIx K) (tVar i) (tC (.int 0))) (tCons (tC (.str z)) tNil))) tu)))
      (sSegJ i s1 wa1 wr wc u) where
  mono h := fun ⟨e3, q⟩ => ⟨e3, p1.mono (fun _ _ => WF.mono (fun _ _ ⟨a, q⟩ => ⟨a, p3.mono (fun _ _ ⟨a, q⟩ => ⟨a, p4.mono (fun _ _ ⟨e, q⟩ => ⟨e, p5.mono h q⟩) q⟩) q⟩) (fun _ _ z => z)) q⟩
  run {F hd σ H δ P D} hE r e := fun ⟨e3, q⟩ => by
    refine p1.run hE r (p1.mono (fun ds1 δ1 q vs1 hd1 H1 k1 r1 d1 => ?_) q)
    show spFN K al1 s1 (vs1 ++ []) H1 _ _
    rw [List.append_nil]
    refine ⟨vis F hd1 H1, ds1, vis_in r1, ArgsV.same (fun _ _ e => e) nt_in d1, WF.mono (fun _ _ q es1 ed1 a1 us1 H2 sH2 na1 ha1 dd1 => ?_) (fun _ _ z => z.elim) q⟩
    obtain ⟨⟨es1', ed1', l1⟩, q⟩ := q
    subst ed1
    cases ed1'
    have r2 := r1.same sH2
    refine p3.run hE r2 (p3.mono (fun ds3 δ3 ⟨l3, q⟩ vs3 hd5 H5 k5 r5 d5 => ⟨by simp; have := DzAll.len d5; rw [sizeLine_eq]; omega, fun p0 np0 => ?_⟩) q)
    have f1 := r1.fresh na1
    have ha5 : H5 a1 = some (.lst us1) := k5.kp _ _ ha1 f1.2.2
    have kH : ∀ b o, H b = some o → ¬ F.T b → H5 b = some o := fun b o h t => k5.kp _ _ (sH2 _ _ (k1.kp _ _ h t)) t
    have ba1 : H a1 = none := k1.back f1.2.2 na1
    have v1 : Dz K (vis F hd5 H5) (.ref a1) (.list es1) := by
      have x1 : Dz K (vis F hd1 H2) (.ref a1) (.list es1) := .lst (.inl (.inl (r1.seen2 na1 ha1))) (DzAll.same (over_vis r1 fun b o h _ => sH2 b o h) dd1)
      exact Dz.same (vis_go r2.bs k5.go) x1
    obtain ⟨k6, r6, s6⟩ := r5.new (.lst (V.ref a1 :: vs3)) np0
    have vd : Dz K (vis F hd5 (upd H5 p0 (.lst (V.ref a1 :: vs3)))) (.ref p0) (.list (.list es1 :: ds3)) := .lst (.inl (.inl (r5.seen np0))) (DzAll.same s6 (.cons v1 d5))
    have r7 := r6.setDat (i := i) vd
    refine p4.run hE r7 (p4.mono (fun b δ4 ⟨eb, q⟩ hd9 H9 k9 r9 => ?_) q)
    subst eb
    have up : ∀ {b o}, ¬ F.T b → H5 b = some o → H9 b = some o := fun {b o} t h => k9.kp _ _ (by rw [upd_ne (ne_of_none h np0)]; exact h) t
    have tp0 := (r5.fresh np0).2.2
    have kH9 : ∀ b o, H b = some o → ¬ F.T b → H9 b = some o := fun b o h t => up t (kH b o h t)
    have h0 : H9 p0 = some (.lst (V.ref a1 :: vs3)) := k9.kp _ _ upd_same tp0
    have h1 : H9 a1 = some (.lst us1) := up f1.2.2 ha5
    have s0 : (σ.set i (some (V.ref p0)))[i]? = some (some (V.ref p0)) := List.getElem?_set_self (by rw [r.len]; exact e3)
    have lus : us1.length < sizeLine := by rw [DzAll.len dd1]; exact l1
    rw [if_neg (by decide)]
    simp only [tNext]
    refine ⟨.ref p0, s0, .inl ⟨p0, _, 0, .ref a1, rfl, rfl, .inl (.inl h0), atI_nat (j := 0) rfl, .inl ⟨rfl, _, .inl (.inl h1)⟩, a1, us1, _, rfl, rfl, h1, lus, ?_⟩⟩
    have kk : ∀ b o, H b = some o → ¬ F.T b → (upd H9 a1 (.lst (us1 ++ [V.str z]))) b = some o := fun b o h' t => by rw [upd_ne (ne_of_none h' ba1)]; exact kH9 b o h' t
    have rz := (r.kp (n := δ4.n) kk (fun b t => (r9.cat b t).lst h1 (fun z => f1.2.2 (by rw [← z]; exact t)))).drop (i := i) (o := some (V.ref p0))
    have gz : Go F hd H hd (upd H9 a1 (.lst (us1 ++ [V.str z]))) := ⟨fun b o e t _ => kk b o e t, fun _ z => .inl z⟩
    exact p5.run hE rz (e.go rz gz) q
end
end Rp

/-! told = [f(..), f(y=.., x=..)]; if ..: return; for a, b in told[0]: b.append(..); told[1].reverse(); what comes behind: f a def with a table. -/
namespace Rp
open PySem PySem.Spec PyProof.Rows L2
section
variable {K : PySem.W.Frag} {E : XK}
theorem args_ff {Hv Hv' Hn : Hp} {zs : List V} {ds : List PyData} (h : ArgsV K Hv Hn [false, false] zs ds) : ArgsV K Hv' Hn [false, false] zs ds := by
  rcases zs with _ | ⟨z1, _ | ⟨z2, _ | ⟨z3, zs⟩⟩⟩ <;> rcases ds with _ | ⟨d1, _ | ⟨d2, _ | ⟨d3, ds⟩⟩⟩ <;> first
    | exact ⟨h.1, h.2.1, trivial⟩
    | exact absurd h (by simp [ArgsV])
def psL (p : Str × List Str) : PyData := .tuple [.str p.1, .list (p.2.map .str)]
theorem over_none {H H' : Hp} {b : Addr} {o : HO} (e : over (fun _ => none) H H' b = some o) : H b = none ∧ H' b = some o := by
  unfold over at e
  cases c : H b with
  | some z => rw [c] at e; cases e
  | none => rw [c] at e; exact ⟨rfl, e⟩
/-- a call all of whose things are new -/
theorem call_new {P : Addr} {q : Str} {s : WF} {F : Frm K} {hd : Addr → Prop} {σ : L2.St} {H : Hp} {δ : DS} {Q : VK} {vs : List V} {ds : List PyData} (hp : F.X.tb P q) (r : Rep K F hd σ H δ) (d : ArgsV K (vis F hd H) (ntH F H) [false, false] vs ds)
    (qq : s.wp ds 0 (fun d _ => ∀ v H', Kp F hd H hd H' → Rep K F hd σ H' δ → Dz K (over (fun _ => none) H H') v d → Dz K (vis F hd H') v d → Q v H') (fun _ _ => False)) : spP K P q [false, false] s vs H Q E0 := by
  have tP := F.tbT P q hp
  refine ⟨fun _ => none, ds, (r.cat P tP).1 q hp, rfl, fun _ _ z => (nomatch z), args_ff (Hv := vis F hd H) (ArgsV.same (fun _ _ e => e) (fun b o e => ?_) d), WF.mono (fun d _ q' v H' x T2 dv => ?_) (fun _ _ z => z.elim) qq⟩
  · obtain ⟨t, e⟩ := nt_some e
    rw [mask_ne (fun z => t (by rw [z]; exact tP))]; exact e
  · obtain ⟨k2, r2⟩ := r.tabled hp x T2
    exact q' v H' k2 r2 dv (Dz.same (over_vis r k2.kp) (Dz.same (fun b o e => by
      obtain ⟨g1, g2⟩ := over_none e
      unfold over; rw [g1]; exact g2) dv))
structure SegL (K : PySem.W.Frag) (F : Frm K) (hd : Addr → Prop) (H H9 : Hp) (v : List AV) (m n : Nat) (i : Nat) (p0 a1 : Addr) (Qs : Addr → Prop) (t : Nat) (σ' : L2.St) (H' : Hp) : Prop where
  rp : Rep K F hd σ' H ⟨v, m⟩
  tp : ∀ b, F.T b → CAt F H' b n
  kp : ∀ b o, H b = some o → ¬ F.T b → H' b = some o
  s0 : σ'[i]? = some (some (V.ref p0))
  same : ∀ b o, H9 b = some o → ¬ Qs b → H' b = some o
  hq : ∀ b, Qs b → ∃ us : List V, H' b = some (.lst us) ∧ us.length ≤ 1000 + t
theorem seqT_off {H9 H' : Hp} {Qs : Addr → Prop} {a : Addr} {xs : List V} (s : ∀ b o, H9 b = some o → ¬ Qs b → H' b = some o) (nl : ∀ b, Qs b → ∃ us, H9 b = some (.lst us)) (h : SqT K H9 a xs) : SqT K H' a xs := by
  rcases h with h | h
  · refine .inl ?_
    rcases h with h | ⟨fz, h⟩
    · exact .inl (s _ _ h fun z => by obtain ⟨us, e⟩ := nl _ z; rw [h] at e; cases e)
    · exact .inr ⟨fz, s _ _ h fun z => by obtain ⟨us, e⟩ := nl _ z; rw [h] at e; cases e⟩
  · exact .inr h
def sSegL (P : Addr) (q : Str) (i f o : Nat) (s1 s2 : WF) (wa1 wa2 : TDa) (wc : TDt) (u : TDs) : TDs := fun X D δ => (i < δ.v.length ∧ f < δ.v.length ∧ o < δ.v.length ∧ f ≠ i ∧ o ≠ i ∧ f ≠ o) ∧ X.tb P q ∧
  wa1 X δ fun ds1 δ1 => s1.wp ds1 0 (fun d1 _ => (∃ ps : List (Str × List Str), d1 = .list (ps.map psL) ∧ ps.length ≤ 1000 ∧ ∀ p ∈ ps, p.2.length ≤ 1000) ∧ wa2 X δ1 fun ds2 δ2 => s2.wp ds2.reverse 0 (fun d2 _ => (∃ es, d2 = .list es) ∧
    wc X ⟨δ2.v.set i (.dat (.list [d1, d2])), δ2.n⟩ fun b δ4 => b = false ∧ u X D ⟨((δ.v.set i .no).set f .no).set o .no, δ4.n⟩) (fun _ _ => False)) (fun _ _ => False)
theorem segL_any {P : Addr} {q : Str} {i f o : Nat} {s1 s2 : WF} {ta1 ta2 : TA} {wa1 wa2 : TDa} {tc : TT} {wc : TDt} {tr tu : TS} {u : TDs} {z : Str} {gV : List V → List V → List V} (hg : ∀ x y, gV [] [x, y] = [y, x])
    (p1 : PuA K E [false, false] ta1 wa1) (p2 : PuA K E [false, false] ta2 wa2) (p4 : PuT K E tc wc) (p5 : PuS K E tu u) :
    PuS K E (tSeq (tAsg (tLst (tCons (tCall (spP K P q [false, false] s1) [] E0 ta1) (tCons (tCallK (spP K P q [false, false] s2) gV E0 tNil ta2) tNil))) (gName i)) (tSeq (tIfS tc tr tNext)
      (tSeq (tFor (iAny K (tOp (rIx K) (tVar i) (tC (.int 0)))) (gTup K 2 (gCons (gName f) (gCons (gName o) gNil))) (tDrop (tBM K "list" rAppend (tVar o) (tCons (tC (.str z)) tNil))))
      (tSeq (tDrop (tBM0 K "list" rReverse (tOp (rIx K) (tVar i) (tC (.int 1))))) tu))))
      (sSegL P q i f o s1 s2 wa1 wa2 wc u) where
  mono h := fun ⟨e3, hp, q⟩ => ⟨e3, hp, p1.mono (fun _ _ => WF.mono (fun _ _ ⟨a, q⟩ => ⟨a, p2.mono (fun _ _ => WF.mono (fun _ _ ⟨a, q⟩ => ⟨a, p4.mono (fun _ _ ⟨e, q⟩ => ⟨e, p5.mono h q⟩) q⟩) (fun _ _ z => z)) q⟩) (fun _ _ z => z)) q⟩
  run {F hd σ H δ P' D} hE r e := fun ⟨⟨li, lf, lo, fi, oi, fo⟩, hp, q⟩ => by
    refine p1.run hE r (p1.mono (fun ds1 δ1 q vs1 hd1 H1 k1 r1 d1 => ?_) q)
    show spP K P _ [false, false] s1 (vs1 ++ []) H1 _ _
    rw [List.append_nil]
    refine call_new hp r1 d1 (WF.mono (fun x1 _ q v1 H2 k2 r2 dn1 dv1 => ?_) (fun _ _ z => z) q)
    obtain ⟨⟨ps, ex1, lps, lpp⟩, q⟩ := q
    subst ex1
    refine p2.run hE r2 (p2.mono (fun ds2 δ2 q vs2 hd3 H3 k3 r3 d2 => ?_) q)
    obtain ⟨y1, y2, rfl⟩ : ∃ y1 y2, vs2 = [y1, y2] := by
      rcases vs2 with _ | ⟨z1, _ | ⟨z2, _ | ⟨z3, zs⟩⟩⟩ <;> rcases ds2 with _ | ⟨w1, _ | ⟨w2, _ | ⟨w3, ws⟩⟩⟩ <;> first
        | exact ⟨_, _, rfl⟩
        | exact absurd d2 (by simp [ArgsV])
    show spP K P _ [false, false] s2 (gV [] [y1, y2]) H3 _ _
    rw [hg]
    refine call_new hp r3 (args_rev2' d2) (WF.mono (fun x2 _ q v2 H4 k4 r4 dn2 dv2 => ?_) (fun _ _ z => z) q)
    obtain ⟨⟨es, ex2⟩, q⟩ := q
    subst ex2
    have sz := sizeLine_eq
    refine ⟨by show 2 ≤ sizeLine; omega, fun p0 np0 => ?_⟩
    have w1 : Dz K (vis F hd3 H4) v1 (.list (ps.map psL)) := Dz.same (vis_go r3.bs k4.go) (Dz.same (vis_go r2.bs k3.go) dv1)
    obtain ⟨a1, us1, rfl, na1, h21, ha1⟩ : ∃ a1 us1, v1 = V.ref a1 ∧ H1 a1 = none ∧ H2 a1 = some (.lst us1) ∧ DzAll K (over (fun _ => none) H1 H2) us1 (ps.map psL) := by
      cases dn1 with
      | lst hs ha => obtain ⟨g1, g2⟩ := over_none hs.get; exact ⟨_, _, rfl, g1, g2, ha⟩
    obtain ⟨a2, us2, rfl, na2, h42⟩ : ∃ a2 us2, v2 = V.ref a2 ∧ H3 a2 = none ∧ H4 a2 = some (.lst us2) := by
      cases dn2 with
      | lst hs ha => obtain ⟨g1, g2⟩ := over_none hs.get; exact ⟨_, _, rfl, g1, g2⟩
    obtain ⟨k6, r6, s6⟩ := r4.new (.lst [V.ref a1, V.ref a2]) np0
    have vd : Dz K (vis F hd3 (upd H4 p0 (.lst [V.ref a1, V.ref a2]))) (.ref p0) (.list [.list (ps.map psL), .list es]) := .lst (.inl (.inl (r4.seen np0))) (DzAll.same s6 (.cons w1 (.cons dv2 .nil)))
    have r7 := r6.setDat (i := i) vd
    refine p4.run hE r7 (p4.mono (fun b δ4 ⟨eb, q⟩ hd9 H9 k9 r9 => ?_) q)
    subst eb
    have tp0 := (r4.fresh np0).2.2
    have up : ∀ {b o}, ¬ F.T b → H2 b = some o → H9 b = some o := fun {b o} t h => by
      have h4 : H4 b = some o := k4.kp _ _ (k3.kp _ _ h t) t
      exact k9.kp _ _ (by rw [upd_ne (ne_of_none h4 np0)]; exact h4) t
    have kH9 : ∀ b o, H b = some o → ¬ F.T b → H9 b = some o := fun b o h t => up t (k2.kp _ _ (k1.kp _ _ h t) t)
    have bk1 : ∀ {b}, H1 b = none → ¬ F.T b ∧ H b = none := fun {b} h => ⟨(r1.fresh h).2.2, k1.back (r1.fresh h).2.2 h⟩
    have bk3 : H a2 = none := by
      have t := (r3.fresh na2).2.2
      cases c : H a2 with
      | none => rfl
      | some o => rw [k3.kp _ _ (k2.kp _ _ (k1.kp _ _ c t) t) t] at na2; cases na2
    have t2 := (r3.fresh na2).2.2
    have h0 : H9 p0 = some (.lst [V.ref a1, V.ref a2]) := k9.kp _ _ upd_same tp0
    have h1 : H9 a1 = some (.lst us1) := up (bk1 na1).1 h21
    have h2 : H9 a2 = some (.lst us2) := k9.kp _ _ (by rw [upd_ne (ne_of_none h42 np0)]; exact h42) t2
    have np2 : ∀ {b o}, H2 b = some o → ¬ F.T b → b ≠ p0 := fun {b o} h t => ne_of_none (k4.kp _ _ (k3.kp _ _ h t) t) np0
    have s0 : (σ.set i (some (V.ref p0)))[i]? = some (some (V.ref p0)) := List.getElem?_set_self (by rw [r.len]; exact li)
    let Qs : Addr → Prop := fun b => ∃ us : List V, H9 b = some (.lst us) ∧ us.length ≤ 1000 ∧ b ≠ a1 ∧ b ≠ p0 ∧ H b = none ∧ ¬ F.T b
    have rb := ((r.drop (i := i) (o := some (V.ref p0))).forget f).forget o
    have st : SegL K F hd H H9 (((δ.v.set i .no).set f .no).set o .no) δ.n δ4.n i p0 a1 Qs 0 (σ.set i (some (V.ref p0))) H9 :=
      ⟨rb, fun b t => r9.cat b t, kH9, s0, fun _ _ h _ => h, fun b ⟨us, h, l, _⟩ => ⟨us, h, by omega⟩⟩
    have q1 : ¬ Qs a1 := fun ⟨_, _, _, n, _⟩ => n rfl
    have q0 : ¬ Qs p0 := fun ⟨_, _, _, _, n, _⟩ => n rfl
    rw [if_neg (by decide)]
    simp only [tNext, tSeq, tFor_eq]
    refine ⟨.ref p0, s0, .inl ⟨p0, _, 0, .ref a1, rfl, rfl, .inl (.inl h0), rfl, a1, rfl, .inl ⟨⟨_, .inl (.inl h1)⟩, ?_⟩⟩⟩
    refine frK (walk_list (xs := us1)) (fun t σ' H' => SegL K F hd H H9 (((δ.v.set i .no).set f .no).set o .no) δ.n δ4.n i p0 a1 Qs t σ' H') st (fun t σ' H' _ h => .inl (.inl (h.same _ _ h1 q1))) (fun t x σ' Ha Hb ht hp' hy => ?_) (fun σ' H' h => ?_)
    · obtain ⟨rfl, hx⟩ := hy
      obtain ⟨d, ed, hxd⟩ := DzAll.at ha1 hx
      rw [List.getElem?_map] at ed
      obtain ⟨p, ep, rfl⟩ := Option.map_eq_some_iff.mp ed
      have pm := List.mem_of_getElem? ep
      have tl : t < ps.length := (List.getElem?_eq_some_iff.mp ep).1
      obtain ⟨tq, xs, rfl, hs, hv⟩ : ∃ tq xs, x = V.ref tq ∧ SqT K (over (fun _ => none) H1 H2) tq xs ∧ DzAll K (over (fun _ => none) H1 H2) xs [.str p.1, .list (p.2.map .str)] := by
        cases hxd with
        | tup hs _ hv => exact ⟨_, _, rfl, hs, hv⟩
      obtain ⟨qq, zs, rfl, hq, hz⟩ : ∃ qq zs, xs = [V.str p.1, V.ref qq] ∧ over (fun _ => none) H1 H2 qq = some (.lst zs) ∧ DzAll K (over (fun _ => none) H1 H2) zs (p.2.map .str) := by
        cases hv with
        | cons v1 hv =>
          cases hv with
          | cons v2 hv =>
            cases hv
            cases v1
            cases v2 with
            | lst h1 h2 => exact ⟨_, _, rfl, h1.get, h2⟩
      obtain ⟨g1, g2⟩ := over_none hq
      obtain ⟨tq', bq'⟩ := bk1 g1
      have s9 : Same (over (fun _ => none) H1 H2) H9 := fun b o e => by
        obtain ⟨g1, g2⟩ := over_none e
        exact up (bk1 g1).1 g2
      have nqa : qq ≠ a1 := fun e' => by
        rw [e', h21] at g2
        cases g2
        obtain ⟨d, ed, hd'⟩ := DzAll.at hz hx
        rw [List.getElem?_map] at ed
        obtain ⟨w, _, rfl⟩ := Option.map_eq_some_iff.mp ed
        cases hd'
      have Qq : Qs qq := ⟨zs, up tq' g2, by rw [DzAll.len hz, List.length_map]; exact lpp p pm, nqa, np2 g2 tq', bq', tq'⟩
      have sq : SqT K Hb tq [V.str p.1, V.ref qq] := seqT_off hp'.same (fun b ⟨us, h, _⟩ => ⟨us, h⟩) (Same.seqT s9 hs)
      obtain ⟨us, hu, lu⟩ := hp'.hq qq Qq
      have ol : o < (σ'.set f (some (V.str p.1))).length := by rw [List.length_set, hp'.rp.len]; simpa using lo
      refine ⟨tq, _, rfl, sq, rfl, _, _, rfl, _, _, rfl, rfl, .ref qq, List.getElem?_set_self ol, .inl ⟨rfl, _, .inl (.inl hu)⟩, qq, us, _, rfl, rfl, hu, by omega, ?_, fun b tb => (hp'.tp b tb).lst hu (fun z' => tq' (by rw [← z']; exact tb)), fun b o' h t' => by rw [upd_ne (ne_of_none h bq')]; exact hp'.kp b o' h t', ?_, fun b o' h nq => ?_, fun b hb => ?_⟩
      · have rr := (hp'.rp.drop (i := f) (o := some (V.str p.1))).drop (i := o) (o := some (V.ref qq))
        have e1 : ((((δ.v.set i AV.no).set f AV.no).set o AV.no).set f AV.no).set o AV.no = ((δ.v.set i AV.no).set f AV.no).set o AV.no := by
          rw [List.set_comm AV.no AV.no (Ne.symm fo), List.set_set, List.set_set]
        have rr : Rep K F hd ((σ'.set f (some (V.str p.1))).set o (some (V.ref qq))) H ⟨((((δ.v.set i AV.no).set f AV.no).set o AV.no).set f AV.no).set o AV.no, δ.n⟩ := rr
        rw [e1] at rr
        exact rr
      · rw [List.getElem?_set_ne oi, List.getElem?_set_ne fi]; exact hp'.s0
      · rw [upd_ne (fun z' => nq (by rw [z']; exact Qq))]; exact hp'.same b o' h nq
      · by_cases c : b = qq
        · exact ⟨_, by rw [c, upd_same], by rw [List.length_append]; show us.length + 1 ≤ _; omega⟩
        · obtain ⟨us', h', l'⟩ := hp'.hq b hb
          exact ⟨us', by rw [upd_ne c]; exact h', by omega⟩
    · have h2' : ∃ us, H' a2 = some (.lst us) := by
        by_cases c : Qs a2
        · obtain ⟨us, e', _⟩ := h.hq a2 c; exact ⟨us, e'⟩
        · exact ⟨us2, h.same _ _ h2 c⟩
      obtain ⟨us, hu⟩ := h2'
      refine ⟨.ref p0, h.s0, .inl ⟨p0, _, 1, .ref a2, rfl, rfl, .inl (.inl (h.same _ _ h0 q0)), rfl, .inl ⟨rfl, _, .inl (.inl hu)⟩, a2, us, rfl, rfl, hu, ?_⟩⟩
      have kk : ∀ b o, H b = some o → ¬ F.T b → (upd H' a2 (.lst us.reverse)) b = some o := fun b o h' t => by rw [upd_ne (ne_of_none h' bk3)]; exact h.kp b o h' t
      have rz := h.rp.kp (n := δ4.n) kk (fun b t => (h.tp b t).lst hu (fun z => t2 (by rw [← z]; exact t)))
      exact p5.run hE rz (e.go rz ⟨fun b o e t _ => kk b o e t, fun _ z => .inl z⟩) q
end
end Rp

/-! Pickings: who was passed by, at which turn a fruit goes. -/
namespace Rp
open PySem PySem.Spec PyProof.Rows L2
section
variable {K : PySem.W.Frag} {E : XK}
def bAsgP (P : Addr) (q : Str) (s : WF) (w : TDa) (wg : TDg) : TDb := fun Y X D δ => X.tb P q ∧ w X δ fun ds δ1 => s.wp ds 0 (fun d _ => wg .V d δ1 D.nx) (fun C d => Y C d δ1)
instance {P : Addr} {q : Str} {al : List Bool} {s : WF} {t : TA} {w : TDa} {g : TG} {is : List Nat} {wg : TDg} [p : PuA K E al t w] [pg : PuG K g is wg] : PuB K E (fun W => tAsg (tCallS (spP K P q al s) (WE W) t) g) (bAsgP P q s w wg) where
  mono h hy := fun ⟨a, z⟩ => ⟨a, p.mono (fun _ _ z => WF.mono (fun _ _ z => pg.mono (fun _ q => h.nx _ q) z) (fun _ _ z => hy _ _ _ z) z) z⟩
  run {F hd σ H δ D' D Y W} hE r e hY := fun ⟨hp, z⟩ => p.run hE r (p.mono (fun ds δ1 z vs hd1 H1 k1 r1 d1 => by
    refine call_runP hp k1 r1 d1 (WF.mono (fun d _ z v hd2 H2 k2 r2 dv => pg.run (l := .V) r2 dv (pg.mono (fun δ2 q σ2 r3 _ _ _ => e.nx _ _ _ _ k2.go r3 q) z)) (fun _ _ z => z) z) fun C d z e' v H' ne x T2 he dv => ?_
    obtain ⟨k2, r2⟩ := r1.tabled hp x T2
    obtain ⟨f1, f2, f3⟩ := r1.fresh ne
    exact hY C d δ1 e' v hd1 H' ((k1.trans k2).go) r2 (by rw [vis_new f1 f2]; exact he) (Dz.same (over_vis r1 k2.kp) dv) z) z)
end
def passG (G : Gr) (row : List Str) : List (Str × List Str) := row.zipIdx.map fun p => (p.1, (ripeG G (row.take p.2)).filter fun z => !decide (z = p.1))
theorem passG_at {G : Gr} {row : List Str} {i : Nat} {f : Str} (h : row[i]? = some f) : (passG G row)[i]? = some (f, (ripeG G (row.take i)).filter fun z => !decide (z = f)) := by
  unfold passG
  rw [List.getElem?_map, List.getElem?_zipIdx, h]
  simp
theorem passG_len (G : Gr) (row : List Str) : (passG G row).length = row.length := by unfold passG; simp
theorem passG_few {G : Gr} (ok : okGr G) {row : List Str} : ∀ p ∈ passG G row, p.2.length ≤ 1000 := fun p hp => by
  unfold passG at hp
  obtain ⟨q, _, rfl⟩ := List.mem_map.mp hp
  refine Nat.le_trans (List.length_filter_le _ _) ?_
  unfold ripeG
  rw [List.length_map]
  exact Nat.le_trans (List.length_filter_le _ _) ok.1
def turn12 (G : Gr) (lk : List Str) (f : Str) : PyData := if f ∈ G.map (·.1) then natD (turnN G lk f) else .tuple [.str (Str.ofString "none"), .str f]
def wf_turn12 : WF := { G := Gr × List Str × Str, pre := fun g ds _ => ∃ a b, ds = [a, b, .str g.2.2] ∧ flat a = grD g.1 ∧ Items b (g.2.1.map .str) ∧ okGr g.1 ∧ (∀ p ∈ g.1, p.1 ∈ g.2.1) ∧ g.2.1.length ≤ 100, post := fun g d _ => d = turn12 g.1 g.2.1 g.2.2 }
def wf_lpassed12 : WF := { G := Gr × List Str, pre := fun g ds _ => ∃ a, ds = [a, .list (g.2.map .str)] ∧ flat a = grD g.1 ∧ okGr g.1 ∧ g.2.length ≤ 100, post := fun g d _ => d = .list ((passG g.1 g.2).map psD) }
def wf_told12 : WF := { G := Gr × List Str, pre := fun g ds _ => ds = [grD g.1, .tuple (g.2.map .str), .list ((pickG g.1 g.2).map .str)] ∧ okGr g.1 ∧ (∀ p ∈ g.1, p.1 ∈ g.2) ∧ g.2.length ≤ 100 ∧ (pickG g.1 g.2).length ≤ 100, post := fun g d _ => d = .bool true }
end Rp

namespace Rp
open PySem PySem.Spec PyProof.Rows L2 TL RZ
def topS (i : Nat) : Stmt := PySem.Challenge.pw_ripepicks_k12_pickings.main.body.getD i (.Pass ⟨0, 0, 0, 0⟩)
abbrev s_is_within : Stmt := topS 4
abbrev s_fruits_of : Stmt := topS 6
abbrev s_others : Stmt := topS 7
abbrev s_refuse_unknown : Stmt := topS 8
abbrev s_has_one_within : Stmt := topS 9
abbrev s_ripe : Stmt := topS 10
abbrev s_pick : Stmt := topS 12
abbrev s_passed_by : Stmt := topS 13
abbrev s_turn_of : Stmt := topS 14
abbrev s__law_tape : Stmt := topS 16
abbrev s__law_draw : Stmt := topS 17
abbrev s__law_folded : Stmt := topS 18
abbrev s__law_names : Stmt := topS 19
abbrev s__law_part : Stmt := topS 20
abbrev s__law_same : Stmt := topS 21
abbrev s__law_least : Stmt := topS 22
abbrev s__law_within : Stmt := topS 23
abbrev s__law_orchard : Stmt := topS 24
abbrev s__law_ripe : Stmt := topS 25
abbrev s__law_picked : Stmt := topS 26
abbrev s__law_turn : Stmt := topS 27
abbrev s__law_lists : Stmt := topS 28
abbrev s__law_passed : Stmt := topS 29
abbrev s__law_told_right : Stmt := topS 30
abbrev s__law_right : Stmt := topS 31
abbrev s_law : Stmt := topS 32
def gKb (us ws : List Value) : List Value := match us with
  | [] => ws.reverse
  | _ => []
def gKbV (us ws : List V) : List V := match us with
  | [] => ws.reverse
  | _ => []
def gKp_turn_of (us ws : List Value) : List Value := match us, ws with
  | [], [x0, x1, x2] => [x1, x2, x0]
  | _, _ => []
def gKpV_turn_of (us ws : List V) : List V := match us, ws with
  | [], [x0, x1, x2] => [x1, x2, x0]
  | _, _ => []
def gKpD_turn_of (ws : List PyData) : List PyData := match ws with
  | [x0, x1, x2] => [x1, x2, x0]
  | _ => []
structure Txt (K : PySem.W.Frag) (mg : Str → Option Value) where
  f_is_within : Addr
  fd_is_within : FuncData
  F_is_within : Fun K "is_within" "is_within" s_is_within f_is_within fd_is_within
  b_is_within : Binds K fd_is_within ["one", "other"] []
  g_is_within : mg "is_within" = some (.ref f_is_within)
  f_fruits_of : Addr
  fd_fruits_of : FuncData
  F_fruits_of : Fun K "fruits_of" "fruits_of" s_fruits_of f_fruits_of fd_fruits_of
  b_fruits_of : Binds K fd_fruits_of ["rows"] []
  g_fruits_of : mg "fruits_of" = some (.ref f_fruits_of)
  f_others : Addr
  fd_others : FuncData
  F_others : Fun K "others" "others" s_others f_others fd_others
  b_others : Binds K fd_others ["fruits", "fruit"] []
  g_others : mg "others" = some (.ref f_others)
  f_refuse_unknown : Addr
  fd_refuse_unknown : FuncData
  F_refuse_unknown : Fun K "refuse_unknown" "refuse_unknown" s_refuse_unknown f_refuse_unknown fd_refuse_unknown
  b_refuse_unknown : Binds K fd_refuse_unknown ["orchard", "fruit"] []
  g_refuse_unknown : mg "refuse_unknown" = some (.ref f_refuse_unknown)
  f_has_one_within : Addr
  fd_has_one_within : FuncData
  F_has_one_within : Fun K "has_one_within" "has_one_within" s_has_one_within f_has_one_within fd_has_one_within
  b_has_one_within : Binds K fd_has_one_within ["lots", "gone"] []
  g_has_one_within : mg "has_one_within" = some (.ref f_has_one_within)
  f_ripe : Addr
  fd_ripe : FuncData
  F_ripe : Fun K "ripe" "ripe" s_ripe f_ripe fd_ripe
  b_ripe : Binds K fd_ripe ["orchard", "gone"] []
  g_ripe : mg "ripe" = some (.ref f_ripe)
  f_pick : Addr
  fd_pick : FuncData
  F_pick : Fun K "pick" "pick" s_pick f_pick fd_pick
  b_pick : Binds K fd_pick ["orchard", "liking"] []
  g_pick : mg "pick" = some (.ref f_pick)
  f_passed_by : Addr
  fd_passed_by : FuncData
  F_passed_by : Fun K "passed_by" "passed_by" s_passed_by f_passed_by fd_passed_by
  b_passed_by : Binds K fd_passed_by ["orchard", "liking"] []
  g_passed_by : mg "passed_by" = some (.ref f_passed_by)
  f_turn_of : Addr
  fd_turn_of : FuncData
  F_turn_of : Fun K "turn_of" "turn_of" s_turn_of f_turn_of fd_turn_of
  b_turn_of : Binds K fd_turn_of ["orchard", "liking", "fruit"] []
  g_turn_of : mg "turn_of" = some (.ref f_turn_of)
  f__law_tape : Addr
  fd__law_tape : FuncData
  F__law_tape : Fun K "_law_tape" "_law_tape" s__law_tape f__law_tape fd__law_tape
  b__law_tape : Binds K fd__law_tape ["_law_script", "_law_k"] []
  g__law_tape : mg "_law_tape" = some (.ref f__law_tape)
  f__law_draw : Addr
  fd__law_draw : FuncData
  F__law_draw : Fun K "_law_draw" "_law_draw" s__law_draw f__law_draw fd__law_draw
  b__law_draw : Binds K fd__law_draw ["_law_tape_here", "_law_many"] []
  g__law_draw : mg "_law_draw" = some (.ref f__law_draw)
  f__law_folded : Addr
  fd__law_folded : FuncData
  F__law_folded : Fun K "_law_folded" "_law_folded" s__law_folded f__law_folded fd__law_folded
  b__law_folded : Binds K fd__law_folded ["_law_script", "_law_many"] []
  g__law_folded : mg "_law_folded" = some (.ref f__law_folded)
  f__law_names : Addr
  fd__law_names : FuncData
  F__law_names : Fun K "_law_names" "_law_names" s__law_names f__law_names fd__law_names
  b__law_names : Binds K fd__law_names ["_law_tape_here", "_law_many"] []
  g__law_names : mg "_law_names" = some (.ref f__law_names)
  f__law_part : Addr
  fd__law_part : FuncData
  F__law_part : Fun K "_law_part" "_law_part" s__law_part f__law_part fd__law_part
  b__law_part : Binds K fd__law_part ["_law_tape_here", "_law_some", "_law_many"] []
  g__law_part : mg "_law_part" = some (.ref f__law_part)
  f__law_same : Addr
  fd__law_same : FuncData
  F__law_same : Fun K "_law_same" "_law_same" s__law_same f__law_same fd__law_same
  b__law_same : Binds K fd__law_same ["_law_found", "_law_due"] []
  g__law_same : mg "_law_same" = some (.ref f__law_same)
  f__law_least : Addr
  fd__law_least : FuncData
  F__law_least : Fun K "_law_least" "_law_least" s__law_least f__law_least fd__law_least
  b__law_least : Binds K fd__law_least ["_law_lots"] []
  g__law_least : mg "_law_least" = some (.ref f__law_least)
  f__law_within : Addr
  fd__law_within : FuncData
  F__law_within : Fun K "_law_within" "_law_within" s__law_within f__law_within fd__law_within
  b__law_within : Binds K fd__law_within ["_law_one", "_law_other"] []
  g__law_within : mg "_law_within" = some (.ref f__law_within)
  f__law_orchard : Addr
  fd__law_orchard : FuncData
  F__law_orchard : Fun K "_law_orchard" "_law_orchard" s__law_orchard f__law_orchard fd__law_orchard
  b__law_orchard : Binds K fd__law_orchard ["_law_tape_here", "_law_names_here", "_law_size"] []
  g__law_orchard : mg "_law_orchard" = some (.ref f__law_orchard)
  f__law_ripe : Addr
  fd__law_ripe : FuncData
  F__law_ripe : Fun K "_law_ripe" "_law_ripe" s__law_ripe f__law_ripe fd__law_ripe
  b__law_ripe : Binds K fd__law_ripe ["_law_orchards", "_law_gone"] []
  g__law_ripe : mg "_law_ripe" = some (.ref f__law_ripe)
  f__law_picked : Addr
  fd__law_picked : FuncData
  F__law_picked : Fun K "_law_picked" "_law_picked" s__law_picked f__law_picked fd__law_picked
  b__law_picked : Binds K fd__law_picked ["_law_orchards", "_law_likings"] []
  g__law_picked : mg "_law_picked" = some (.ref f__law_picked)
  f__law_turn : Addr
  fd__law_turn : FuncData
  F__law_turn : Fun K "_law_turn" "_law_turn" s__law_turn f__law_turn fd__law_turn
  b__law_turn : Binds K fd__law_turn ["_law_orchards", "_law_likings", "_law_fruits"] []
  g__law_turn : mg "_law_turn" = some (.ref f__law_turn)
  f__law_lists : Addr
  fd__law_lists : FuncData
  F__law_lists : Fun K "_law_lists" "_law_lists" s__law_lists f__law_lists fd__law_lists
  b__law_lists : Binds K fd__law_lists ["_law_thing"] []
  g__law_lists : mg "_law_lists" = some (.ref f__law_lists)
  f__law_passed : Addr
  fd__law_passed : FuncData
  F__law_passed : Fun K "_law_passed" "_law_passed" s__law_passed f__law_passed fd__law_passed
  b__law_passed : Binds K fd__law_passed ["_law_orchards", "_law_row"] []
  g__law_passed : mg "_law_passed" = some (.ref f__law_passed)
  f__law_told_right : Addr
  fd__law_told_right : FuncData
  F__law_told_right : Fun K "_law_told_right" "_law_told_right" s__law_told_right f__law_told_right fd__law_told_right
  b__law_told_right : Binds K fd__law_told_right ["_law_orchards", "_law_likings", "_law_row"] []
  g__law_told_right : mg "_law_told_right" = some (.ref f__law_told_right)
  f__law_right : Addr
  fd__law_right : FuncData
  F__law_right : Fun K "_law_right" "_law_right" s__law_right f__law_right fd__law_right
  b__law_right : Binds K fd__law_right ["_law_tape_here"] []
  g__law_right : mg "_law_right" = some (.ref f__law_right)
  f_law : Addr
  fd_law : FuncData
  F_law : Fun K "law" "law" s_law f_law fd_law
  b_law : Binds K fd_law ["_law_script"] []
  g_law : mg "law" = some (.ref f_law)
  c_NoFruit : Addr
  i_NoFruit : Addr
  g_NoFruit : mg "NoFruit" = some (.ref c_NoFruit)
  w_NoFruit : PySem.WhatX.WhatTxt K mg "NoFruit" c_NoFruit i_NoFruit
  is_NoFruit : IsC K c_NoFruit
  c_NoRow : Addr
  i_NoRow : Addr
  g_NoRow : mg "NoRow" = some (.ref c_NoRow)
  w_NoRow : PySem.WhatX.WhatTxt K mg "NoRow" c_NoRow i_NoRow
  is_NoRow : IsC K c_NoRow
  x_NoFruit_NoFruit : PySem.W.exmOne K (.ref c_NoFruit) (.ref c_NoFruit) = some true
  ki_NoFruit_NoFruit : PySem.W.kitOne K (.ref c_NoFruit) (.ref c_NoFruit) = some true
  x_NoFruit_NoRow : PySem.W.exmOne K (.ref c_NoFruit) (.ref c_NoRow) = some false
  ki_NoFruit_NoRow : PySem.W.kitOne K (.ref c_NoFruit) (.ref c_NoRow) = some false
  kt_NoFruit_LookupError : PySem.W.kitOne K (.ref c_NoFruit) (.type "LookupError") = some true
  kb_pick : KBinds K fd_pick ["orchard", "liking"] ["liking", "orchard"] gKb gKbV
  kb_passed_by : KBinds K fd_passed_by ["orchard", "liking"] ["liking", "orchard"] gKb gKbV
  kb_turn_of : KBinds K fd_turn_of ["orchard", "liking", "fruit"] ["fruit", "orchard", "liking"] gKp_turn_of gKpV_turn_of
  cp_passed_by : Addr
  tp_passed_by : Addr
  cd_passed_by : fd_passed_by.code = .ref cp_passed_by
  m_len : mg "len" = none
  m_sum : mg "sum" = none
  m_abs : mg "abs" = none
  m_int : mg "int" = none
  m_list : mg "list" = none
  m_tuple : mg "tuple" = none
  m_all : mg "all" = none
  m_any : mg "any" = none
  m_isinstance : mg "isinstance" = none
  m_max : mg "max" = none
  m_min : mg "min" = none
  m_range : mg "range" = none
  m_enumerate : mg "enumerate" = none
  m_zip : mg "zip" = none
  m_str : mg "str" = none
  m_bool : mg "bool" = none
  m_LookupError : mg "LookupError" = none
  m_ValueError : mg "ValueError" = none
  m_repr : mg "repr" = none
  m_sorted : mg "sorted" = none
  m_set : mg "set" = none
theorem sc__law_tape : FnScope ["_law_script", "_law_k", "_law_cell"] ["_law_script", "_law_k"] (defScope s__law_tape) := ⟨rfl, rfl, rfl, by decide +kernel, rfl, by decide +kernel, by decide +kernel⟩
theorem sc__law_draw : FnScope ["_law_tape_here", "_law_many", "_law_once", "_law_twice", "_law_wide", "_law_found"] ["_law_tape_here", "_law_many"] (defScope s__law_draw) := ⟨rfl, rfl, rfl, by decide +kernel, rfl, by decide +kernel, by decide +kernel⟩
theorem sc__law_folded : FnScope ["_law_script", "_law_many", "_law_cells", "_law_k", "_law_cell"] ["_law_script", "_law_many"] (defScope s__law_folded) := ⟨rfl, rfl, rfl, by decide +kernel, rfl, by decide +kernel, by decide +kernel⟩
section
variable {P : Program} {w : World} {K : PySem.W.Frag} {mg : Str → Option Value} {base : Heap}
def sp__law_tape (K : PySem.W.Frag) : Sp := fun vs H Q _ => ∃ (a : Addr) (ns : List Int) (k : Nat), vs = [.ref a, .int k] ∧ SqL K H a (ns.map V.int) ∧ ns.length ≤ 1000 ∧ k ≤ 1000 ∧
  ∀ t, H t = none → ∀ H', TapeAt H' t 0 → (∀ b, b ≠ t → H' b = H b) → Q (.ref t) H'
theorem ok__law_tape (T : Txt K mg) : FnOk P w K mg base CX0 1 T.f__law_tape T.fd__law_tape ["_law_script", "_law_k"] (sp__law_tape K) := by
  refine T.F__law_tape.ok sc__law_tape (fun vs H Q E h => ?_) (fun cdv A outer s H vs Q E hr h => ?_)
  · obtain ⟨a, ns, k, rfl, _⟩ := h
    rfl
  · obtain ⟨a, ns, k, rfl, hS, hlen, hk, q⟩ := h
    refine ⟨_, (pss_cons (ps_set (i := 2) sc__law_tape.nd rfl (by first | exact Or.inl rfl | exact Or.inr rfl) (pe_ifExp (pt_cmpR op_lt (pv 1) (pe_callB call_len_seq (by rfl) T.m_len (by decide +kernel) (pa_cons (pv 0) pa_nil)) (nomark _)) (pe_ix ix_list (pv 0) (pv 1) (fun _ _ => rfl)) pe_int))
      (pss_one (ps_ret (pe_lst (pa_cons (pe_op op_mul (pe_callB call_abs (by rfl) T.m_abs (by decide +kernel) (pa_cons (pv 2) pa_nil)) (pe_callTy call_int1 (by rfl) T.m_int (by decide +kernel) (pa_cons (pe_cmpR op_ge (pe_callB call_abs (by rfl) T.m_abs (by decide +kernel) (pa_cons (pv 2) pa_nil)) (pe_op op_pow pe_int pe_int) (nomark _)) pa_nil))) (pa_cons (pe_op op_add (pe_op op_add (pe_op op_mod (pv 2) pe_int) (pe_op op_mul pe_int (pv 1))) pe_int) (pa_cons pe_int pa_nil))))))), ?_⟩
    simp [tSeq, tAsg, tIf, tIfS, tVar, tC, tOp, tUn, rI, rI0, rU, tCB, tCons, tNil, tLst, tTup, tRet, gName, gCons, gNil, gSub, rSetL, tTest, tB, tNot, tAnd, tOr, tAndV, tOrV, tNotV, tNext, tDrop, tCall, tCallK, gKbV, tSl, tNoPart, tPart, tPar, rEq, rNe, tLc_eq, tFor_eq, iRng1, L2.start, cxOf, Cx.nox, StX.tStar]
    refine ⟨_, .inl hS, ?_⟩
    have c1 : CPow 10 18 := by unfold CPow; decide
    have c3 : CMul 39373 (k : Int) := by unfold CMul; left; decide
    have sz : 3 ≤ sizeLine := by rw [sizeLine_eq]; decide
    by_cases hlt : k < ns.length
    · rw [if_pos (by simpa using hlt)]
      have ge : (ns.map V.int)[k]? = some (.int ns[k]) := by rw [List.getElem?_map, List.getElem?_eq_getElem hlt]; rfl
      generalize ns[k] = x at ge
      refine ixL hS (atI_nat ge) ⟨x, rfl, x, rfl, c1, ?_, x, rfl, c3, sz, fun p hp => q p hp _ ⟨_, _, _, upd_same, ?_, ?_, ?_, by omega, by omega⟩ (fun b hb => upd_ne hb)⟩
      · unfold CMul; right; split <;> omega
      · split <;> split <;> omega
      · omega
      · omega
    · rw [if_neg (by simpa using hlt)]
      exact ⟨c1, by unfold CMul; left; decide, c3, sz, fun p hp => q p hp _ ⟨_, _, _, upd_same, by omega, by omega, by omega, by omega, by omega⟩ (fun b hb => upd_ne hb)⟩
def sp__law_draw (K : PySem.W.Frag) : Sp := fun vs H Q _ => ∃ (t : Addr) (m : Int) (n : Nat), vs = [.ref t, .int m] ∧ TapeAt H t n ∧ n ≤ 100000000 ∧ 0 < m ∧ m < 1000000 ∧
  ∀ (r : Int) (H' : Hp), 0 ≤ r → r < m → TapeAt H' t (n + 1) → (∀ b, b ≠ t → H' b = H b) → Q (.int r) H'
theorem ok__law_draw (T : Txt K mg) : FnOk P w K mg base CX0 1 T.f__law_draw T.fd__law_draw ["_law_tape_here", "_law_many"] (sp__law_draw K) := by
  refine T.F__law_draw.ok sc__law_draw (fun vs H Q E h => ?_) (fun cdv A outer s H vs Q E hr h => ?_)
  · obtain ⟨t, m, n, rfl, _⟩ := h
    rfl
  · obtain ⟨t, m, n, rfl, ⟨a, b, c, ht, ha, hb, hb2, hc, hcn⟩, hn, hm, hm2, q⟩ := h
    refine ⟨_, (pss_cons (ps_if (pt_cmpR op_gt (pe_ix ix_list (pv 0) pe_int (fun _ _ => rfl)) pe_int (nomark _)) (pss_cons (ps_set (i := 5) sc__law_draw.nd rfl (by first | exact Or.inl rfl | exact Or.inr rfl) (pe_op op_mod (pe_ix ix_list (pv 0) pe_int (fun _ _ => rfl)) (pv 1)))
      (pss_cons (ps_asg (pe_op op_fdivW (pe_ix ix_list (pv 0) pe_int (fun _ _ => rfl)) (pv 1)) (pg_sub (pv 0) pe_int set_list))
      (pss_one (ps_ret (pv 5))))) pss_nil)
      (pss_cons (ps_asg (pe_op op_add (pe_ix ix_list (pv 0) pe_int (fun _ _ => rfl)) pe_int) (pg_sub (pv 0) pe_int set_list))
      (pss_cons (ps_set (i := 2) sc__law_draw.nd rfl (by first | exact Or.inl rfl | exact Or.inr rfl) (pe_op op_mod (pe_op op_pow (pe_op op_add (pe_ix ix_list (pv 0) pe_int (fun _ _ => rfl)) (pe_op op_mul pe_int (pe_ix ix_list (pv 0) pe_int (fun _ _ => rfl)))) pe_int) pe_int))
      (pss_cons (ps_set (i := 3) sc__law_draw.nd rfl (by first | exact Or.inl rfl | exact Or.inr rfl) (pe_op op_mod (pe_op op_mul (pe_op op_add (pv 2) (pe_ix ix_list (pv 0) pe_int (fun _ _ => rfl))) (pe_op op_add (pe_op op_add (pe_op op_mod (pv 2) pe_int) pe_int) (pe_ix ix_list (pv 0) pe_int (fun _ _ => rfl)))) pe_int))
      (pss_cons (ps_set (i := 4) sc__law_draw.nd rfl (by first | exact Or.inl rfl | exact Or.inr rfl) (pe_op op_mod (pe_op op_add (pe_op op_add (pe_op op_fdivW (pe_ix ix_list (pv 0) pe_int (fun _ _ => rfl)) pe_int) (pe_op op_mul (pv 3) pe_int)) (pe_ix ix_list (pv 0) pe_int (fun _ _ => rfl))) pe_int))
      (pss_one (ps_ret (pe_op op_mod (pe_op op_fdivW (pe_op op_mod (pe_op op_add (pe_op op_add (pe_op op_mul (pv 3) pe_int) (pe_op op_mul (pv 4) pe_int)) (pv 2)) pe_int) pe_int) (pv 1))))))))), ?_⟩
    simp [tSeq, tAsg, tIf, tIfS, tVar, tC, tOp, tUn, rI, rI0, rU, tCB, tCons, tNil, tLst, tTup, tRet, gName, gCons, gNil, gSub, rSetL, tTest, tB, tNot, tAnd, tOr, tAndV, tOrV, tNotV, tNext, tDrop, tCall, tCallK, gKbV, tSl, tNoPart, tPart, tPar, rEq, rNe, tLc_eq, tFor_eq, iRng1, L2.start, cxOf, Cx.nox, StX.tStar]
    have ix0 : ∀ x y z : Int, atI [V.int x, V.int y, V.int z] 0 = some (.int x) := fun _ _ _ => rfl
    have ix1 : ∀ x y z : Int, atI [V.int x, V.int y, V.int z] 1 = some (.int y) := fun _ _ _ => rfl
    have ix2 : ∀ x y z : Int, atI [V.int x, V.int y, V.int z] 2 = some (.int z) := fun _ _ _ => rfl
    have dv : ∀ i : Int, CDivW i m := fun i => wide_div hm (b := 30) (by omega) (by decide) (by decide)
    refine ixLH ht (ix0 _ _ _) ⟨a, rfl, ?_⟩
    by_cases h0 : 0 < a
    · rw [if_pos h0]
      refine ixLH ht (ix0 _ _ _) ⟨a, rfl, hm, ixLH ht (ix0 _ _ _) ⟨a, rfl, dv _, _, ht, 0, rfl, ?_⟩⟩
      refine q _ _ (Int.emod_nonneg _ (by omega)) (Int.emod_lt_of_pos _ hm) ⟨a / m, b, c, upd_same, Int.ediv_nonneg ha (by omega), hb, hb2, hc, by omega⟩ (fun b hb => upd_ne hb)
    · rw [if_neg h0]
      refine ixLH ht (ix2 _ _ _) ⟨c, rfl, _, ht, 2, rfl, ?_⟩
      have ht1 : (upd H t (.lst [V.int a, V.int b, V.int (c + 1)])) t = some (.lst [V.int a, V.int b, V.int (c + 1)]) := upd_same
      refine ixLH ht1 (ix1 _ _ _) (ixLH ht1 (ix2 _ _ _) ⟨_, rfl, by unfold CMul; left; decide, _, rfl, ⟨by decide, by decide, by omega⟩, ixLH ht1 (ix2 _ _ _) ⟨_, rfl, ixLH ht1 (ix2 _ _ _) ⟨_, rfl, ?_, ?_⟩⟩⟩)
      · have z := Int.emod_lt_of_pos ((b + 39373 * (c + 1)) ^ 5) (show (0 : Int) < 2147483647 by decide)
        have z0 := Int.emod_nonneg ((b + 39373 * (c + 1)) ^ 5) (show (2147483647 : Int) ≠ 0 by decide)
        unfold CMul; left; constructor <;> omega
      · have cm : ∀ (x y : Int), (-(2 ^ 64) < y ∧ y < 2 ^ 64) → CMul x y := fun x y h => .inr h
        refine ixLH ht1 (ix1 _ _ _) ⟨_, rfl, wide_div (by decide) (b := 40) (by decide) (by decide) (by decide), cm _ _ (by decide), ixLH ht1 (ix2 _ _ _) ⟨_, rfl, cm _ _ (by decide), cm _ _ (by decide), wide_div (by decide) (b := 30) (by decide) (by decide) (by decide), hm, ?_⟩⟩
        exact q _ _ (Int.emod_nonneg _ (by omega)) (Int.emod_lt_of_pos _ hm) ⟨a, b, c + 1, upd_same, ha, hb, hb2, by omega, by omega⟩ (fun b hb => upd_ne hb)
def sp__law_folded (K : PySem.W.Frag) : Sp := fun vs H Q _ => ∃ (a : Addr) (ns : List Int) (m : Nat), vs = [.ref a, .int m] ∧ SqL K H a (ns.map V.int) ∧ ns.length ≤ 63 ∧ 0 < m ∧ m ≤ 10 ∧
  ∀ (p : Addr) (H' : Hp) (cs : List Int), cs.length ≤ m → (ns ≠ [] → cs ≠ []) → H p = none → Same H H' → H' p = some (.lst (cs.map V.int)) → Q (.ref p) H'
def Pfold (H : Hp) (a l c : Addr) (m : Nat) (ns : List Int) (_ : Nat) (σ : L2.St) (H' : Hp) : Prop := ∃ (y3 y4 : Option V) (cs : List Int), σ = [some (.ref a), some (.int m), some (.ref l), y3, y4] ∧ Same H H' ∧ H' l = some (.lst (cs.map V.int)) ∧ cs.length = (ns.take m).length ∧ H' c = some (.lst (((ns.take 63).drop m).map V.int))
theorem ok__law_folded (T : Txt K mg) : FnOk P w K mg base CX0 1 T.f__law_folded T.fd__law_folded ["_law_script", "_law_many"] (sp__law_folded K) := by
  refine T.F__law_folded.ok sc__law_folded (fun vs H Q E h => ?_) (fun cdv A outer s H vs Q E hr h => ?_)
  · obtain ⟨t, m, n, rfl, _⟩ := h
    rfl
  · obtain ⟨a, ns, m, rfl, hS, hlen, hm, hm2, q⟩ := h
    refine ⟨_, (pss_cons (ps_set (i := 2) sc__law_folded.nd rfl (by first | exact Or.inl rfl | exact Or.inr rfl) (pe_callTy call_list_of (by rfl) T.m_list (by decide +kernel) (pa_cons (pe_slice sl_list (pv 0) po_none (po_some (pv 1))) pa_nil)))
      (pss_cons (ps_for PassesOwn.never rfl (pi_enum (by rfl) T.m_enumerate (pa_cons (pe_slice sl_list (pv 0) (po_some (pv 1)) (po_some pe_int)) pa_nil)) (pg_tup rfl (pgs_cons (pg_name (i := 3) sc__law_folded.nd rfl (by first | exact Or.inl rfl | exact Or.inr rfl)) (pgs_cons (pg_name (i := 4) sc__law_folded.nd rfl (by first | exact Or.inl rfl | exact Or.inr rfl)) pgs_nil)))
      (pss_one (ps_asg (pe_op op_add (pe_ix ix_list (pv 2) (pe_op op_mod (pv 3) (pv 1)) (fun _ _ => rfl)) (pe_op op_mul (pv 4) (pe_op op_add (pv 3) pe_int))) (pg_sub (pv 2) (pe_op op_mod (pv 3) (pv 1)) set_list))))
      (pss_one (ps_ret (pv 2))))), ?_⟩
    simp [tSeq, tAsg, tIf, tIfS, tVar, tC, tOp, tUn, rI, rI0, rU, tCB, tCons, tNil, tLst, tTup, tRet, gName, gCons, gNil, gSub, rSetL, tTest, tB, tNot, tAnd, tOr, tAndV, tOrV, tNotV, tNext, tDrop, tCall, tCallK, gKbV, tSl, tNoPart, tPart, tPar, rEq, rNe, tLc_eq, tFor_eq, iRng1, L2.start, cxOf, Cx.nox, StX.tStar]
    refine ⟨a, _, rfl, hS, fun c1 n1 => ⟨c1, rfl, _, .inl (.inl (.inl upd_same)), fun l nl => ?_⟩⟩
    rw [cutV_to, ← List.map_take] at nl ⊢
    have s1 : Same H (upd H c1 (.lst ((ns.take m).map V.int))) := Same.new n1
    have s2 : Same (upd H c1 (.lst ((ns.take m).map V.int))) (upd (upd H c1 (.lst ((ns.take m).map V.int))) l (.lst ((ns.take m).map V.int))) := Same.new nl
    have nl0 : H l = none := s1.free nl
    generalize hHl : upd (upd H c1 (.lst ((ns.take m).map V.int))) l (.lst ((ns.take m).map V.int)) = Hl at s2
    have el : Hl l = some (.lst ((ns.take m).map V.int)) := by rw [← hHl]; exact upd_same
    have s3 := s1.trans s2
    refine ⟨.ref a, rfl, .int m, rfl, m, rfl, 63, rfl, a, _, rfl, s3.seq hS, fun c nc => ⟨c, _, rfl, .inl (.inl upd_same), ?_⟩⟩
    rw [show (63 : Int) = ((63 : Nat) : Int) from rfl, cutV_mid, ← List.map_take, ← List.map_drop]
    have s4 : Same Hl (upd Hl c (.lst (((ns.take 63).drop m).map V.int))) := Same.new nc
    have ncl : c ≠ l := fun e => by rw [e, el] at nc; cases nc
    refine for_it (walk_enum (xs := ((ns.take 63).drop m).map V.int)) (Pfold H a l c m ns)
      ⟨none, none, ns.take m, rfl, s3.trans s4, s4 _ _ el, rfl, upd_same⟩ (fun i σ H' _ h => ?_) (fun i x σ H1 H2 hi h hy => ?_) (fun σ H' h => ?_)
    · obtain ⟨_, _, _, _, _, _, _, h⟩ := h
      exact .inl (.inl h)
    · obtain ⟨y3, y4, cs, rfl, sm, e1, e2, e3⟩ := h
      obtain ⟨T1, x1, x2, rfl, nT, rfl, ex1, ex2⟩ := hy
      have ex1 : V.int i = x1 := Option.some.inj ex1
      subst ex1
      dsimp only at ex2
      rw [List.getElem?_map] at ex2
      obtain ⟨z, ez, rfl⟩ := Option.map_eq_some_iff.mp ex2
      have lcs : cs.length = m := by
        rw [List.length_map, List.length_drop, List.length_take] at hi
        rw [e2, List.length_take]
        omega
      refine gTup2 (.inl (.inl upd_same)) ?_
      simp [tSeq, tAsg, tIf, tIfS, tVar, tC, tOp, tUn, rI, rI0, rU, tCB, tCons, tNil, tLst, tTup, tRet, gName, gCons, gNil, gSub, rSetL, tTest, tB, tNot, tAnd, tOr, tAndV, tOrV, tNotV, tNext, tDrop, tCall, tCallK, gKbV, tSl, tNoPart, tPart, tPar, rEq, rNe, tLc_eq, tFor_eq, iRng1, L2.start, cxOf, Cx.nox, StX.tStar]
      have lt : i % m < cs.length := by rw [lcs]; exact Nat.mod_lt _ hm
      have e1T : (upd H1 T1 (.tup [.int i, .int z])) l = some (.lst (cs.map V.int)) := by rw [upd_ne (ne_of_none e1 nT)]; exact e1
      refine ⟨by omega, ixLH e1T (atI_ok (k := i % m) (by omega) (by rw [List.length_map]; exact lt)) ⟨?_, cs[i % m], by rw [List.getElem_map], by omega, _, e1T, i % m, ixN_ok (by omega) (by rw [List.length_map]; exact lt), ?_⟩⟩
      · rw [List.length_map, List.length_drop, List.length_take] at hi
        unfold CMul; right; constructor <;> omega
      · refine ⟨_, _, cs.set (i % m) (cs[i % m] + z * (i + 2)), rfl, fun b o e => ?_, ?_, ?_, ?_⟩
        · rw [upd_ne (ne_of_none e nl0), upd_ne (ne_of_none (sm _ _ e) nT)]
          exact sm _ _ e
        · rw [upd_same, List.map_set]
        · rw [List.length_set, e2, List.length_take]
        · rw [upd_ne ncl, upd_ne (ne_of_none e3 nT)]
          exact e3
    · obtain ⟨y3, y4, cs, rfl, sm, e1, e2, e3⟩ := h
      refine ⟨.ref l, rfl, q l H' cs ?_ ?_ nl0 sm e1⟩
      · rw [e2, List.length_take]; omega
      · intro hne hc
        rw [hc, List.length_nil, List.length_take] at e2
        have : ns.length ≠ 0 := fun z => hne (List.length_eq_zero_iff.mp z)
        omega
end
theorem sc__law_names : FnScope ["_law_tape_here", "_law_many", "_law_stem", "_law_k", "_law_letters", "_law_shift", "_law_at", "_law_step", "_law_found", "_law_head", "_law_tail", "_law_way", "_law_sign"] ["_law_tape_here", "_law_many"] (defScope s__law_names) := ⟨rfl, rfl, rfl, by decide +kernel, rfl, by decide +kernel, by decide +kernel⟩
section
variable {P : Program} {w : World} {K : PySem.W.Frag} {mg : Str → Option Value} {base : Heap}
def sp__law_names (K : PySem.W.Frag) : Sp := fun vs H Q _ => ∃ (t : Addr) (m n : Nat), vs = [.ref t, .int m] ∧ TapeAt H t n ∧ n ≤ 90000000 ∧ m ≤ 26 ∧
  ∀ (zs : List Str) (p : Addr) (H' : Hp), zs.length = m → zs.Nodup → (∀ z ∈ zs, IsName z) → H p = none → TapeAt H' t (n + 20) → Ext t H H' → H' p = some (.lst (zs.map V.str)) → Q (.ref p) H'
def Pstem (t D : Addr) (H1 : Hp) (n : Nat) (i : Nat) (H' : Hp) : Prop := ∃ cs : List Nat, cs.length = i ∧ (∀ c ∈ cs, 97 ≤ c ∧ c ≤ 122) ∧ H' D = some (.lst (cs.map fun c => V.str (tx [c]))) ∧ TapeAt H' t (n + i) ∧ Ext t H1 H'
def Pnames (t p : Addr) (H0 : Hp) (N m : Nat) (cs : List Nat) (sh at_ st w : Nat) (i : Nat) (σ : L2.St) (H' : Hp) : Prop := ∃ y3 y11 y12 : Option V,
  σ = [some (.ref t), some (.int m), some (.str (tx cs)), y3, some (.str (Str.ofString "abcdefghijklmnopqrstuvwxyz")), some (.int sh), some (.int at_), some (.int st), some (.ref p), some (.str (tx (cs.take at_))), some (.str (tx (cs.drop at_))), y11, y12] ∧
  H' p = some (.lst ((List.range i).map fun k => V.str (tx (nm sh st w (cs.take at_) (cs.drop at_) k)))) ∧ TapeAt H' t N ∧ Ext t H0 H'
theorem ok__law_names (T : Txt K mg) : FnOk P w K mg base CX0 2 T.f__law_names T.fd__law_names ["_law_tape_here", "_law_many"] (sp__law_names K) := by
  refine T.F__law_names.ok sc__law_names (fun vs H Q E h => ?_) (fun cdv A outer s H vs Q E hr h => ?_)
  · obtain ⟨t, m, n, rfl, _⟩ := h
    rfl
  · obtain ⟨t, m, n, rfl, hT, hn, hm, q⟩ := h
    refine ⟨_, (pss_cons (ps_asg (pe_tup (pa_cons pe_str (pa_cons (pe_call (ok__law_draw T) (hr.mono (by decide)) (by rfl) T.g__law_draw T.F__law_draw.kp T.b__law_draw .nil pass0 (pa_cons (pv 0) (pa_cons pe_int pa_nil))) pa_nil))) (pg_tup rfl (pgs_cons (pg_name (i := 4) sc__law_names.nd rfl (by first | exact Or.inl rfl | exact Or.inr rfl)) (pgs_cons (pg_name (i := 5) sc__law_names.nd rfl (by first | exact Or.inl rfl | exact Or.inr rfl)) pgs_nil))))
      (pss_cons (ps_set (i := 2) sc__law_names.nd rfl (by first | exact Or.inl rfl | exact Or.inr rfl) (pe_join pe_str (pe_lc (own := [("_law_k", 3)]) (g := (gName 3)) (tt := tYes) (te := (tOp rIxS (tVar 4) (tCall (sp__law_draw K) [] E0 (tCons (tVar 0) (tCons (tC (.int 26)) tNil))))) (by rfl) sc__law_names.nd (pi_range1 (by rfl) T.m_range (pa_cons (pe_call (ok__law_draw T) (hr.mono (by decide)) (by rfl) T.g__law_draw T.F__law_draw.kp T.b__law_draw .nil pass0 (pa_cons (pv 0) (pa_cons pe_int pa_nil))) pa_nil)) (blkOk_by (own := [("_law_k", 3)]) (N := ["_law_tape_here", "_law_many", "_law_stem", "_law_k", "_law_letters", "_law_shift", "_law_at", "_law_step", "_law_found", "_law_head", "_law_tail", "_law_way", "_law_sign"]) (sc := defScope s__law_names) (by decide +kernel)) (fun _ _ _ _ _ => (pg_name (i := 3) sc__law_names.nd rfl (by first | exact Or.inl rfl | exact Or.inr rfl))) (fun _ _ _ _ _ => pts_nil) (fun _ _ _ _ _ => (pe_ix ix_str (pv 4) (pe_call (ok__law_draw T) (hr.mono (by decide)) (by rfl) T.g__law_draw T.F__law_draw.kp T.b__law_draw .nil pass0 (pa_cons (pv 0) (pa_cons pe_int pa_nil))) (fun _ _ => rfl))))))
      (pss_cons (ps_par3 (by rfl) sc__law_names.nd (i := 6) (j := 7) (l := 8) rfl rfl rfl (by decide) (by decide) (by decide) rfl rfl rfl (pa_cons (pe_call (ok__law_draw T) (hr.mono (by decide)) (by rfl) T.g__law_draw T.F__law_draw.kp T.b__law_draw .nil pass0 (pa_cons (pv 0) (pa_cons (pe_op op_add (pe_callB call_len_str (by rfl) T.m_len (by decide +kernel) (pa_cons (pv 2) pa_nil)) pe_int) pa_nil))) (pa_cons (pe_ix ix_list (pe_lst (pa_cons pe_int (pa_cons pe_int (pa_cons pe_int pa_nil)))) (pe_call (ok__law_draw T) (hr.mono (by decide)) (by rfl) T.g__law_draw T.F__law_draw.kp T.b__law_draw .nil pass0 (pa_cons (pv 0) (pa_cons pe_int pa_nil))) (fun _ _ => rfl)) (pa_cons (pe_lst pa_nil) pa_nil))) (by rfl))
      (pss_cons (ps_par (by rfl) sc__law_names.nd (i := 9) (j := 10) rfl rfl (by decide) rfl rfl (pa_cons (pe_slice sl_str (pv 2) po_none (po_some (pv 6))) (pa_cons (pe_slice sl_str (pv 2) (po_some (pv 6)) po_none) pa_nil)) (by rfl))
      (pss_cons (ps_for PassesOwn.never rfl (pi_range1 (by rfl) T.m_range (pa_cons (pv 1) pa_nil)) (pg_name (i := 3) sc__law_names.nd rfl (by first | exact Or.inl rfl | exact Or.inr rfl))
      (pss_cons (ps_set (i := 11) sc__law_names.nd rfl (by first | exact Or.inl rfl | exact Or.inr rfl) (pe_op op_mul (pe_op op_mod (pe_op op_add (pe_op op_add (pv 5) (pv 6)) (pe_callB call_len_str (by rfl) T.m_len (by decide +kernel) (pa_cons (pv 2) pa_nil))) pe_int) (pe_callTy call_int1 (by rfl) T.m_int (by decide +kernel) (pa_cons (pe_cmpR op_ne (pv 10) pe_str (nomark _)) pa_nil))))
      (pss_cons (ps_set (i := 12) sc__law_names.nd rfl (by first | exact Or.inl rfl | exact Or.inr rfl) (pe_ix ix_str (pv 4) (pe_op op_mod (pe_op op_add (pv 5) (pe_op op_mul (pv 7) (pe_ix ix_list (pe_lst (pa_cons (pv 3) (pa_cons (pe_op op_fdivW (pv 3) pe_int) (pa_cons (pv 3) pa_nil)))) (pv 11) (fun _ _ => rfl)))) pe_int) (fun _ _ => rfl)))
      (pss_one (ps_expr (pe_bm PySem.F.plainAttrs_list PySem.F.slot_list_append PySem.F.type_list_append mt_append (pv 8) (pa_cons (pe_op op_add_str (pe_op op_add_str (pv 9) (pv 12)) (pe_ix ix_list (pe_lst (pa_cons (pv 10) (pa_cons (pe_op op_rep_str (pv 10) (pe_op op_mod (pv 3) pe_int)) (pa_cons (pe_slice sl_str (pv 10) po_none (po_some (pe_op op_mod (pv 3) (pe_op op_add (pe_callB call_len_str (by rfl) T.m_len (by decide +kernel) (pa_cons (pv 10) pa_nil)) pe_int)))) pa_nil)))) (pv 11) (fun _ _ => rfl))) pa_nil)))))))
      (pss_one (ps_ret (pv 8)))))))), ?_⟩
    simp [tSeq, tAsg, tIf, tIfS, tVar, tC, tOp, tUn, rI, rI0, rU, tCB, tCons, tNil, tLst, tTup, tRet, gName, gCons, gNil, gSub, rSetL, tTest, tB, tNot, tAnd, tOr, tAndV, tOrV, tNotV, tNext, tDrop, tCall, tCallK, gKbV, tSl, tNoPart, tPart, tPar, rEq, rNe, tLc_eq, tFor_eq, iRng1, L2.start, cxOf, Cx.nox, StX.tStar]
    have s2 : 2 ≤ sizeLine := by rw [sizeLine_eq]; decide
    have szl : ∀ k : Nat, k ≤ 1000 → k ≤ sizeLine := fun k h => by rw [sizeLine_eq]; omega
    refine ⟨t, 26, n, rfl, hT, by omega, by decide, by decide, fun sh H1 sh0 sh1 T1 k1 => ⟨s2, fun p1 n1 => gTup2 (.inl (.inl upd_same)) ?_⟩⟩
    have ntp : ∀ {X : Hp} {q : Addr} {j : Nat}, TapeAt X t j → X q = none → q ≠ t := fun h e z => by
      obtain ⟨a, b, c, h, _⟩ := h
      rw [z, h] at e; cases e
    have x1 : Ext t H (upd H1 p1 (.tup [V.str (Str.ofString "abcdefghijklmnopqrstuvwxyz"), V.int sh])) := fun b o nb e => by
      have e' : H1 b = some o := by rw [k1 b nb]; exact e
      rw [upd_ne (ne_of_none e' n1)]; exact e'
    have T1' := T1.new (o := .tup [V.str (Str.ofString "abcdefghijklmnopqrstuvwxyz"), V.int sh]) n1
    generalize upd H1 p1 (.tup [V.str (Str.ofString "abcdefghijklmnopqrstuvwxyz"), V.int sh]) = H2 at x1 T1'
    simp [tSeq, tAsg, tIf, tIfS, tVar, tC, tOp, tUn, rI, rI0, rU, tCB, tCons, tNil, tLst, tTup, tRet, gName, gCons, gNil, gSub, rSetL, tTest, tB, tNot, tAnd, tOr, tAndV, tOrV, tNotV, tNext, tDrop, tCall, tCallK, gKbV, tSl, tNoPart, tPart, tPar, rEq, rNe, tLc_eq, tFor_eq, iRng1, L2.start, cxOf, Cx.nox, StX.tStar, tM1, tLc_eq, iRng1]
    refine ⟨t, 8, n + 1, rfl, T1', by omega, by decide, by decide, fun ln H3 ln0 ln1 T3 k3 => ⟨ln, rfl, by omega, by omega, ?_⟩⟩
    have x3 : Ext t H H3 := x1.trans fun b o nb e => by rw [k3 b nb]; exact e
    refine lcK (walk_range (lo := 0) (n := ln.toNat)) (fun D => Pstem t D H3 (n + 2)) (fun D nD => ⟨[], rfl, (fun _ h => nomatch h), upd_same, T3.new nD, Ext.new nD⟩) (fun _ _ _ _ _ => trivial) (fun D i x Ha Hb nD hi hp hy => ?_) (fun D Ha nD hp => ?_)
    · have nDt : D ≠ t := ntp T3 nD
      obtain ⟨rfl, rfl⟩ := hy
      obtain ⟨cs, l1, l2, l3, l4, l5⟩ := hp
      simp [tSeq, tAsg, tIf, tIfS, tVar, tC, tOp, tUn, rI, rI0, rU, tCB, tCons, tNil, tLst, tTup, tRet, gName, gCons, gNil, gSub, rSetL, tTest, tB, tNot, tAnd, tOr, tAndV, tOrV, tNotV, tNext, tDrop, tCall, tCallK, gKbV, tSl, tNoPart, tPart, tPar, rEq, rNe, tLc_eq, tFor_eq, iRng1, L2.start, cxOf, Cx.nox, StX.tStar, wipe, tYes]
      refine ⟨t, 26, n + 2 + i, rfl, l4, by omega, by decide, by decide, fun r Hc r0 r1 Tc kc => ?_⟩
      refine ⟨_, r, 97 + r.toNat, rfl, rfl, by rw [letters_len]; exact szl _ (by decide), letters_at r0 r1, ?_⟩
      refine ⟨_, by rw [kc D nDt]; exact l3, by rw [List.length_map, sizeLine_eq]; omega, cs ++ [97 + r.toNat], by simp [l1], ?_, ?_, ?_, ?_⟩
      · intro c hc
        rcases List.mem_append.mp hc with h | h
        · exact l2 c h
        · simp at h; omega
      · rw [upd_same, List.map_append]; rfl
      · obtain ⟨a, b, c, h, h'⟩ := Tc
        exact ⟨a, b, c, by rw [upd_ne nDt.symm]; exact h, h'⟩
      · intro b o nb e
        rw [upd_ne (ne_of_none e nD), kc b nb]
        exact l5 b o nb e
    · obtain ⟨cs, l1, l2, l3, l4, l5⟩ := hp
      refine ⟨D, rfl, cs.map (fun c => tx [c]), .inl (.inl (.inl (by rw [List.map_map]; exact l3))), ?_, ?_⟩
      · have : ∀ l : List Nat, ((l.map fun c => tx [c]).map (·.length)).sum = l.length := fun l => by
          induction l with
          | nil => rfl
          | cons c r ih => simp [tx_len] at ih ⊢; omega
        rw [this, List.length_map, tx_empty, tx_len]
        simp; omega
      · rw [join_signs]
        have xa : Ext t H Ha := x3.trans l5
        have lc : cs.length ≤ 7 := by omega
        clear l5 x3 x1 T1' T3 k3 k1 T1 hT
        simp [tSeq, tAsg, tIf, tIfS, tVar, tC, tOp, tUn, rI, rI0, rU, tCB, tCons, tNil, tLst, tTup, tRet, gName, gCons, gNil, gSub, rSetL, tTest, tB, tNot, tAnd, tOr, tAndV, tOrV, tNotV, tNext, tDrop, tCall, tCallK, gKbV, tSl, tNoPart, tPart, tPar, rEq, rNe, tLc_eq, tFor_eq, iRng1, L2.start, cxOf, Cx.nox, StX.tStar, tPar3, tx_len]
        refine ⟨szl _ (by omega), t, cs.length + 1, n + 2 + ln.toNat, rfl, l4, by omega, by omega, by omega, fun at_ H4 at0 at1 T4 k4 => ⟨szl _ (by decide), fun p4 n4 => ?_⟩⟩
        have T4' := T4.new (o := .lst [V.int 1, V.int 7, V.int 25]) n4
        have p4t := ntp T4 n4
        refine ⟨t, 3, _, rfl, T4', by omega, by decide, by decide, fun sx H5 sx0 sx1 T5 k5 => ?_⟩
        have e5 : H5 p4 = some (.lst [V.int 1, V.int 7, V.int 25]) := by rw [k5 p4 p4t]; exact upd_same
        have x5 : Ext t H H5 := fun b o nb e => by
          have e1 := xa b o nb e
          rw [k5 b nb, upd_ne (fun z => by rw [z] at e1; rw [← k4 p4 p4t, n4] at e1; cases e1), k4 b nb]
          exact e1
        refine ixLH e5 (atI3 (w := sx.toNat) (by omega) (by omega)) (fun p np => ?_)
        have npt : p ≠ t := ntp T5 np
        obtain ⟨st, est, hst⟩ : ∃ st : Nat, (if sx.toNat = 0 then V.int 1 else if sx.toNat = 1 then V.int 7 else V.int 25) = V.int (st : Nat) ∧ (st = 1 ∨ st = 7 ∨ st = 25) := by
          split
          · exact ⟨1, rfl, .inl rfl⟩
          · split
            · exact ⟨7, rfl, .inr (.inl rfl)⟩
            · exact ⟨25, rfl, .inr (.inr rfl)⟩
        rw [est]
        obtain ⟨shN, rfl⟩ : ∃ k : Nat, sh = (k : Int) := ⟨sh.toNat, by omega⟩
        obtain ⟨a, rfl⟩ : ∃ k : Nat, at_ = (k : Int) := ⟨at_.toNat, by omega⟩
        have pn0 : H p = none := by
          cases e : H p with
          | none => rfl
          | some o => rw [x5 p o npt e] at np; cases np
        refine ⟨_, _, _, ⟨rfl, rfl, rfl⟩, a, rfl, ⟨_, rfl, by rw [tx_len]; exact szl _ (by omega), a, rfl, ⟨_, rfl, by rw [tx_len]; exact szl _ (by omega), _, _, ⟨rfl, rfl⟩, by omega, ?_⟩⟩⟩
        rw [cutS_to, cutS_from]
        generalize hw : (if cs.drop a = [] then 0 else (shN + a + cs.length) % 3) = w
        have hw3 : w < 3 := by rw [← hw]; split <;> omega
        have hwt : w ≠ 0 → cs.drop a ≠ [] := fun h0 z => h0 (by rw [← hw, if_pos z])
        refine frK walk_range (Pnames t p H (n + 20) m cs shN a st w) ⟨none, none, none, rfl, upd_same, ?_, ?_⟩ (fun _ _ _ _ _ => trivial) (fun i x σ Hc Hd hi hp hy => ?_) (fun σ Hc hp => ?_)
        · exact (T5.new np).mono (by omega)
        · exact x5.trans (Ext.new np)
        · obtain ⟨rfl, rfl⟩ := hy
          obtain ⟨y3, y11, y12, rfl, e1, e2, e3⟩ := hp
          simp [tSeq, tAsg, tIf, tIfS, tVar, tC, tOp, tUn, rI, rI0, rU, tCB, tCons, tNil, tLst, tTup, tRet, gName, gCons, gNil, gSub, rSetL, tTest, tB, tNot, tAnd, tOr, tAndV, tOrV, tNotV, tNext, tDrop, tCall, tCallK, gKbV, tSl, tNoPart, tPart, tPar, rEq, rNe, tLc_eq, tFor_eq, iRng1, L2.start, cxOf, Cx.nox, StX.tStar]
          refine ⟨by rw [tx_len]; exact szl _ (by omega), rfl, ?_⟩
          have hd2 : CDivW (i : Int) 2 := wide_div (by decide) (b := 5) (by decide) (by decide) (by decide)
          have s3 : 3 ≤ sizeLine := szl _ (by decide)
          obtain ⟨wi, ewi, hor⟩ : ∃ wi : Int, wi = (w : Int) ∧ ((cs.drop a = [] ∧ wi = 0) ∨ (cs.drop a ≠ [] ∧ wi = ((shN : Int) + a + ((tx cs).length : Nat)) % 3)) := by
            by_cases hz : cs.drop a = []
            · exact ⟨0, by rw [← hw, if_pos hz]; rfl, .inl ⟨hz, rfl⟩⟩
            · exact ⟨_, by rw [← hw, if_neg hz, tx_len]; omega, .inr ⟨hz, rfl⟩⟩
          rcases hor with ⟨hz, ez⟩ | ⟨hz, ez⟩
          · refine .inl ⟨by rw [hz]; rfl, .inr (by decide), hd2, s3, ?_⟩
            intro p6 n6
            have np6 : p6 ≠ p := fun z => by rw [z, e1] at n6; cases n6
            have li := nmIdx_lt (w := w) (k := i) (by omega)
            refine ixLH upd_same (atI3 (w := w) (ez.symm.trans ewi) hw3) ⟨((nmIdx w i : Nat) : Int), idxV w i, .inl (by omega), _, _, _, rfl, rfl, by rw [letters_len]; exact szl _ (by decide), letters_at (Int.emod_nonneg _ (by decide)) (Int.emod_lt_of_pos _ (by decide)), ?_⟩
            have T6 := e2.new (o := .lst [V.int i, V.int ((i : Int) / 2), V.int i]) n6
            have e6 : (upd Hd p6 (.lst [V.int i, V.int ((i : Int) / 2), V.int i])) p = _ := (upd_ne np6.symm).trans e1
            have x6 : Ext t H (upd Hd p6 (.lst [V.int i, V.int ((i : Int) / 2), V.int i])) := e3.trans (Ext.new n6)
            generalize upd Hd p6 (.lst [V.int i, V.int ((i : Int) / 2), V.int i]) = H6 at T6 e6 x6
            simp [tSeq, tAsg, tIf, tIfS, tVar, tC, tOp, tUn, rI, rI0, rU, tCB, tCons, tNil, tLst, tTup, tRet, gName, gCons, gNil, gSub, rSetL, tTest, tB, tNot, tAnd, tOr, tAndV, tOrV, tNotV, tNext, tDrop, tCall, tCallK, gKbV, tSl, tNoPart, tPart, tPar, rEq, rNe, tLc_eq, tFor_eq, iRng1, L2.start, cxOf, Cx.nox, StX.tStar, tBM, rRepStr, rSlS, rAppend, tx_len]
            have ec : (((shN : Int) + (st : Int) * ((nmIdx w i : Nat) : Int)) % 26).toNat = (shN + st * nmIdx w i) % 26 := by
              rw [← Int.natCast_mul, ← Int.natCast_add]
              omega
            have ecut : cutS (tx (cs.drop a)) none (some ((i : Int) % (((cs.length - a : Nat) : Int) + 1))) = tx ((cs.drop a).take (i % ((cs.drop a).length + 1))) := by
              rw [← cutS_to, List.length_drop]
              congr 2
            rw [ec, ecut, show (⟨#[97 + (shN + st * nmIdx w i) % 26]⟩ : Str) = tx [97 + (shN + st * nmIdx w i) % 26] from rfl, tx_app]
            refine ⟨.inl ⟨rfl, _, .inl (.inl e6)⟩, by rw [tx_len]; exact szl _ (by simp; omega), by omega, by omega, by rw [sizeLine_eq]; omega, s3, fun p7 n7 => ?_⟩
            have np7 : p7 ≠ p := fun z => by rw [z, e6] at n7; cases n7
            have ltl := nmTail_len (w := w) (k := i) (tail := cs.drop a)
            rw [List.length_drop] at ltl
            refine ixLH upd_same (atI3 (w := w) (ez.symm.trans ewi) hw3) ⟨_, tailV w i _, by rw [tx_len, tx_len, List.length_append, List.length_take]; exact szl _ (by simp; omega), _, (upd_ne np7.symm).trans e6, by rw [List.length_map, List.length_range, sizeLine_eq]; omega, _, _, _, rfl, ?_, ?_, ?_⟩
            · rw [upd_same, List.range_succ, List.map_append, tx_app, List.append_assoc]; rfl
            · obtain ⟨b1, b2, b3, h, h'⟩ := T6.new (o := .lst [V.str (tx (cs.drop a)), V.str (if (i : Int) % 2 < 1 then Str.empty else tx (cs.drop a)), V.str (tx ((cs.drop a).take (i % ((cs.drop a).length + 1))))]) n7
              exact ⟨b1, b2, b3, by rw [upd_ne npt.symm]; exact h, h'⟩
            · intro b o nb e
              have eb := x6 b o nb e
              rw [upd_ne (fun z => by rw [z, pn0] at e; cases e), upd_ne (ne_of_none eb n7)]
              exact eb
          · refine .inr ⟨fun z => hz (tx_inj z), .inr (by decide), hd2, s3, ?_⟩
            intro p6 n6
            have np6 : p6 ≠ p := fun z => by rw [z, e1] at n6; cases n6
            have li := nmIdx_lt (w := w) (k := i) (by omega)
            refine ixLH upd_same (atI3 (w := w) (ez.symm.trans ewi) hw3) ⟨((nmIdx w i : Nat) : Int), idxV w i, .inl (by omega), _, _, _, rfl, rfl, by rw [letters_len]; exact szl _ (by decide), letters_at (Int.emod_nonneg _ (by decide)) (Int.emod_lt_of_pos _ (by decide)), ?_⟩
            have T6 := e2.new (o := .lst [V.int i, V.int ((i : Int) / 2), V.int i]) n6
            have e6 : (upd Hd p6 (.lst [V.int i, V.int ((i : Int) / 2), V.int i])) p = _ := (upd_ne np6.symm).trans e1
            have x6 : Ext t H (upd Hd p6 (.lst [V.int i, V.int ((i : Int) / 2), V.int i])) := e3.trans (Ext.new n6)
            generalize upd Hd p6 (.lst [V.int i, V.int ((i : Int) / 2), V.int i]) = H6 at T6 e6 x6
            simp [tSeq, tAsg, tIf, tIfS, tVar, tC, tOp, tUn, rI, rI0, rU, tCB, tCons, tNil, tLst, tTup, tRet, gName, gCons, gNil, gSub, rSetL, tTest, tB, tNot, tAnd, tOr, tAndV, tOrV, tNotV, tNext, tDrop, tCall, tCallK, gKbV, tSl, tNoPart, tPart, tPar, rEq, rNe, tLc_eq, tFor_eq, iRng1, L2.start, cxOf, Cx.nox, StX.tStar, tBM, rRepStr, rSlS, rAppend, tx_len]
            have ec : (((shN : Int) + (st : Int) * ((nmIdx w i : Nat) : Int)) % 26).toNat = (shN + st * nmIdx w i) % 26 := by
              rw [← Int.natCast_mul, ← Int.natCast_add]
              omega
            have ecut : cutS (tx (cs.drop a)) none (some ((i : Int) % (((cs.length - a : Nat) : Int) + 1))) = tx ((cs.drop a).take (i % ((cs.drop a).length + 1))) := by
              rw [← cutS_to, List.length_drop]
              congr 2
            rw [ec, ecut, show (⟨#[97 + (shN + st * nmIdx w i) % 26]⟩ : Str) = tx [97 + (shN + st * nmIdx w i) % 26] from rfl, tx_app]
            refine ⟨.inl ⟨rfl, _, .inl (.inl e6)⟩, by rw [tx_len]; exact szl _ (by simp; omega), by omega, by omega, by rw [sizeLine_eq]; omega, s3, fun p7 n7 => ?_⟩
            have np7 : p7 ≠ p := fun z => by rw [z, e6] at n7; cases n7
            have ltl := nmTail_len (w := w) (k := i) (tail := cs.drop a)
            rw [List.length_drop] at ltl
            refine ixLH upd_same (atI3 (w := w) (by rw [tx_len] at ez; exact ez.symm.trans ewi) hw3) ⟨_, tailV w i _, by rw [tx_len, tx_len, List.length_append, List.length_take]; exact szl _ (by simp; omega), _, (upd_ne np7.symm).trans e6, by rw [List.length_map, List.length_range, sizeLine_eq]; omega, _, _, _, rfl, ?_, ?_, ?_⟩
            · rw [upd_same, List.range_succ, List.map_append, tx_app, List.append_assoc]; rfl
            · obtain ⟨b1, b2, b3, h, h'⟩ := T6.new (o := .lst [V.str (tx (cs.drop a)), V.str (if (i : Int) % 2 < 1 then Str.empty else tx (cs.drop a)), V.str (tx ((cs.drop a).take (i % ((cs.drop a).length + 1))))]) n7
              exact ⟨b1, b2, b3, by rw [upd_ne npt.symm]; exact h, h'⟩
            · intro b o nb e
              have eb := x6 b o nb e
              rw [upd_ne (fun z => by rw [z, pn0] at e; cases e), upd_ne (ne_of_none eb n7)]
              exact eb
        · obtain ⟨y3, y11, y12, rfl, e1, e2, e3⟩ := hp
          simp [tSeq, tAsg, tIf, tIfS, tVar, tC, tOp, tUn, rI, rI0, rU, tCB, tCons, tNil, tLst, tTup, tRet, gName, gCons, gNil, gSub, rSetL, tTest, tB, tNot, tAnd, tOr, tAndV, tOrV, tNotV, tNext, tDrop, tCall, tCallK, gKbV, tSl, tNoPart, tPart, tPar, rEq, rNe, tLc_eq, tFor_eq, iRng1, L2.start, cxOf, Cx.nox, StX.tStar]
          refine q ((List.range m).map fun k => tx (nm shN st w (cs.take a) (cs.drop a) k)) p Hc (by simp) ?_ ?_ pn0 e2 e3 (by rw [e1, List.map_map]; rfl)
          · refine nodup_map List.nodup_range ?_
            intro i hi j hj e
            rw [List.mem_range] at hi hj
            exact nm_inj hst hwt (by omega) (by omega) (tx_inj e)
          · intro z hz
            obtain ⟨k, hk, rfl⟩ := List.mem_map.mp hz
            have l1 := nmTail_len (w := w) (k := k) (tail := cs.drop a)
            rw [List.length_drop] at l1
            refine ⟨?_, ?_, ?_⟩
            · rw [tx_len, nm, List.length_append, List.length_cons]; omega
            · rw [tx_len, nm, List.length_append, List.length_cons, List.length_take]; omega
            · rw [tx_cps, nm]
              intro c hc
              rcases List.mem_append.mp hc with h | h
              · exact l2 c (List.mem_of_mem_take h)
              · rcases List.mem_cons.mp h with rfl | h
                · omega
                · exact l2 c (List.mem_of_mem_drop (nmTail_sub c h))
end
theorem sc__law_part : FnScope ["_law_tape_here", "_law_some", "_law_many", "_law_left", "_law_k"] ["_law_tape_here", "_law_some", "_law_many"] (defScope s__law_part) := ⟨rfl, rfl, rfl, by decide +kernel, rfl, by decide +kernel, by decide +kernel⟩
section
variable {P : Program} {w : World} {K : PySem.W.Frag} {mg : Str → Option Value} {base : Heap}
def sp__law_part (K : PySem.W.Frag) : Sp := fun vs H Q _ => ∃ (t a : Addr) (xs : List V) (m n : Nat), vs = [.ref t, .ref a, .int m] ∧ TapeAt H t n ∧ n ≤ 90000000 ∧ (SqL K H a xs ∨ SqT K H a xs) ∧ xs.length ≤ 1000 ∧ m ≤ xs.length ∧
  ∀ (ys rest : List V) (p : Addr) (H' : Hp), (ys ++ rest).Perm xs → ys.length = m → H p = none → TapeAt H' t (n + m) → Ext t H H' → H' p = some (.lst ys) → Q (.ref p) H'
def Ppart (H : Hp) (t l : Addr) (xs : List V) (n : Nat) (D : Addr) (i : Nat) (H' : Hp) : Prop := ∃ ys left : List V, ys.length = i ∧ (ys ++ left).Perm xs ∧ H' D = some (.lst ys) ∧ H' l = some (.lst left) ∧ TapeAt H' t (n + i) ∧ Ext t H H' ∧ D ≠ l ∧ D ≠ t ∧ l ≠ t ∧ H D = none ∧ H l = none
theorem ok__law_part (T : Txt K mg) : FnOk P w K mg base CX0 2 T.f__law_part T.fd__law_part ["_law_tape_here", "_law_some", "_law_many"] (sp__law_part K) := by
  refine T.F__law_part.ok sc__law_part (fun vs H Q E h => ?_) (fun cdv A outer s H vs Q E hr h => ?_)
  · obtain ⟨t, a, xs, m, n, rfl, _⟩ := h
    rfl
  · obtain ⟨t, a, xs, m, n, rfl, hT, hn, hS, hx, hm, q⟩ := h
    refine ⟨_, (pss_cons (ps_set (i := 3) sc__law_part.nd rfl (by first | exact Or.inl rfl | exact Or.inr rfl) (pe_callTy call_list_of (by rfl) T.m_list (by decide +kernel) (pa_cons (pv 1) pa_nil)))
      (pss_one (ps_ret (pe_lc (own := [("_law_k", 4)]) (g := (gName 4)) (tt := tYes) (te := (tBM K "list" rPopAt (tVar 3) (tCons (tCall (sp__law_draw K) [] E0 (tCons (tVar 0) (tCons (tCB (rLenQ K) (tCons (tVar 3) tNil)) tNil))) tNil))) (by rfl) sc__law_part.nd (pi_range1 (by rfl) T.m_range (pa_cons (pv 2) pa_nil)) (blkOk_by (own := [("_law_k", 4)]) (N := ["_law_tape_here", "_law_some", "_law_many", "_law_left", "_law_k"]) (sc := defScope s__law_part) (by decide +kernel)) (fun _ _ _ _ _ => (pg_name (i := 4) sc__law_part.nd rfl (by first | exact Or.inl rfl | exact Or.inr rfl))) (fun _ _ _ _ _ => pts_nil) (fun _ _ _ _ _ => (pe_bm PySem.F.plainAttrs_list PySem.F.slot_list_pop PySem.F.type_list_pop mt_popAt (pv 3) (pa_cons (pe_call (ok__law_draw T) (hr.mono (by decide)) (by rfl) T.g__law_draw T.F__law_draw.kp T.b__law_draw .nil pass0 (pa_cons (pv 0) (pa_cons (pe_callB call_len_seq (by rfl) T.m_len (by decide +kernel) (pa_cons (pv 3) pa_nil)) pa_nil))) pa_nil))))))), ?_⟩
    simp [tSeq, tAsg, tIf, tIfS, tVar, tC, tOp, tUn, rI, rI0, rU, tCB, tCons, tNil, tLst, tTup, tRet, gName, gCons, gNil, gSub, rSetL, tTest, tB, tNot, tAnd, tOr, tAndV, tOrV, tNotV, tNext, tDrop, tCall, tCallK, gKbV, tSl, tNoPart, tPart, tPar, rEq, rNe, tLc_eq, tFor_eq, iRng1, L2.start, cxOf, Cx.nox, StX.tStar]
    refine ⟨xs, hS, fun l nl => ⟨by omega, ?_⟩⟩
    have ntp : ∀ {X : Hp} {q : Addr} {j : Nat}, TapeAt X t j → X q = none → q ≠ t := fun h e z => by
      obtain ⟨a, b, c, h, _⟩ := h
      rw [z, h] at e; cases e
    have lt := ntp hT nl
    have T0 := hT.new (o := .lst xs) nl
    refine lcK (walk_range (lo := 0) (n := m)) (Ppart H t l xs n) (fun D nD => ?_) (fun _ _ _ _ _ => trivial) (fun D i x Ha Hb nD hi hp hy => ?_) (fun D Ha nD hp => ?_)
    · have nDl : D ≠ l := fun z => by rw [z, upd_same] at nD; cases nD
      have nDH : H D = none := by rw [upd_ne nDl] at nD; exact nD
      exact ⟨[], xs, rfl, .refl _, upd_same, by rw [upd_ne nDl.symm, upd_same], T0.new nD, (Ext.new nl).trans (Ext.new nD), nDl, ntp hT nDH, lt, nDH, nl⟩
    · obtain ⟨rfl, rfl⟩ := hy
      obtain ⟨ys, left, l1, l2, l3, l4, l5, l6, l7, l8, l9, l10, l11⟩ := hp
      have ll : ys.length + left.length = xs.length := by rw [← List.length_append]; exact l2.length_eq
      simp [tSeq, tAsg, tIf, tIfS, tVar, tC, tOp, tUn, rI, rI0, rU, tCB, tCons, tNil, tLst, tTup, tRet, gName, gCons, gNil, gSub, rSetL, tTest, tB, tNot, tAnd, tOr, tAndV, tOrV, tNotV, tNext, tDrop, tCall, tCallK, gKbV, tSl, tNoPart, tPart, tPar, rEq, rNe, tLc_eq, tFor_eq, iRng1, L2.start, cxOf, Cx.nox, StX.tStar, wipe, tYes, tBM, rLenQ]
      refine ⟨.inl ⟨rfl, _, .inl (.inl l4)⟩, left, .inl (.inl (.inl l4)), t, left.length, n + i, rfl, l5, by omega, by omega, by omega, fun r Hc r0 r1 Tc kc => ?_⟩
      have hr : r.toNat < left.length := by omega
      have e1 : Hc l = some (.lst left) := by rw [kc l l9]; exact l4
      have e2 : Hc D = some (.lst ys) := by rw [kc D l8]; exact l3
      refine ⟨l, left, r, r.toNat, left[r.toNat], rfl, rfl, e1, by omega, by omega, ?_, List.getElem?_eq_getElem hr, ?_⟩
      · exact (ixN_seq (ixN_ok (by omega) hr)).1
      · refine ⟨ys, by rw [upd_ne l7]; exact e2, by rw [sizeLine_eq]; omega, ys ++ [left[r.toNat]], left.eraseIdx r.toNat, by simp [l1], ?_, upd_same, by rw [upd_ne l7.symm, upd_same], ?_, ?_, l7, l8, l9, l10, l11⟩
        · rw [List.append_assoc]
          exact ((List.Perm.append_left ys (erase_perm left _ hr)).trans l2)
        · obtain ⟨a, b, c, h, h'⟩ := Tc
          exact ⟨a, b, c, by rw [upd_ne l8.symm, upd_ne l9.symm]; exact h, h'⟩
        · intro b o nb e
          rw [upd_ne (ne_of_none e l10), upd_ne (ne_of_none e l11), kc b nb]
          exact l6 b o nb e
    · obtain ⟨ys, left, l1, l2, l3, l4, l5, l6, l7, l8, l9, l10, l11⟩ := hp
      exact q ys left D Ha l2 l1 l10 l5 l6 l3
end
theorem sc__law_same : FnScope ["_law_found", "_law_due", "_law_one", "_law_other"] ["_law_found", "_law_due"] (defScope s__law_same) := ⟨rfl, rfl, rfl, by decide +kernel, rfl, by decide +kernel, by decide +kernel⟩
section
variable {P : Program} {w : World} {K : PySem.W.Frag} {mg : Str → Option Value} {base : Heap}
def sp__law_same (K : PySem.W.Frag) : Nat → Sp
  | 0 => fun _ _ _ _ => False
  | n + 1 => fun vs H Q _ => ∃ (x y : V) (d : PyData), vs = [x, y] ∧ Dp K H x d ∧ Dp K H y d ∧ Deep n d ∧ ∀ H', Same H H' → Q (.bl true) H'
def Psame (H : Hp) (D : Addr) (i : Nat) (H' : Hp) : Prop := Same H H' ∧ H' D = some (.lst (List.replicate i (V.bl true)))
theorem ok__law_same (T : Txt K mg) : ∀ n, FnOk P w K mg base CX0 n T.f__law_same T.fd__law_same ["_law_found", "_law_due"] (sp__law_same K n)
  | 0 => ⟨fun _ _ _ _ h => h.elim, fun _ _ _ _ _ _ _ _ _ _ _ _ _ h => h.elim⟩
  | n + 1 => by
    have ih := ok__law_same T n
    refine T.F__law_same.ok sc__law_same (fun vs H Q E h => ?_) (fun cdv A outer s H vs Q E hr h => ?_)
    · obtain ⟨x, y, d, rfl, _⟩ := h
      rfl
    · obtain ⟨x, y, d, rfl, hx, hy, hd, q⟩ := h
      refine ⟨_, (pss_cons (ps_if (pt_val (pe_callB call_isiT (by rfl) T.m_isinstance (by decide +kernel) (pa_cons (pv 1) (pa_cons (pe_tup (pa_cons (pe_bltn (v := .ty "list") (by rfl) T.m_list (by decide +kernel) rfl) (pa_cons (pe_bltn (v := .ty "tuple") (by rfl) T.m_tuple (by decide +kernel) rfl) pa_nil))) pa_nil)))) (pss_cons (ps_if (PW.pt (pw_or (pt_cmpR op_ne (pe_callB call_isi (by rfl) T.m_isinstance (by decide +kernel) (pa_cons (pv 0) (pa_cons (pe_bltn (v := .ty "list") (by rfl) T.m_list (by decide +kernel) rfl) pa_nil))) (pe_callB call_isi (by rfl) T.m_isinstance (by decide +kernel) (pa_cons (pv 1) (pa_cons (pe_bltn (v := .ty "list") (by rfl) T.m_list (by decide +kernel) rfl) pa_nil))) (nomark _)) (pw_or1 (pt_cmpR op_ne (pe_callB call_isi (by rfl) T.m_isinstance (by decide +kernel) (pa_cons (pv 0) (pa_cons (pe_bltn (v := .ty "tuple") (by rfl) T.m_tuple (by decide +kernel) rfl) pa_nil))) (pe_callB call_isi (by rfl) T.m_isinstance (by decide +kernel) (pa_cons (pv 1) (pa_cons (pe_bltn (v := .ty "tuple") (by rfl) T.m_tuple (by decide +kernel) rfl) pa_nil))) (nomark _))))) (pss_one (ps_ret pe_bl)) pss_nil)
      (pss_one (ps_ret (pe_and (pe_cmpR op_eq (pe_callB call_len (by rfl) T.m_len (by decide +kernel) (pa_cons (pv 0) pa_nil)) (pe_callB call_len (by rfl) T.m_len (by decide +kernel) (pa_cons (pv 1) pa_nil)) (nomark _)) (pe_one (pe_callB (cr_all rfl) (by rfl) T.m_all (by decide +kernel) (pa_cons (pe_lc (own := [("_law_one", 2), ("_law_other", 3)]) (g := (gTup K 2 (gCons (gName 2) (gCons (gName 3) gNil)))) (tt := tYes) (te := (tCall (sp__law_same K n) [] E0 (tCons (tVar 2) (tCons (tVar 3) tNil)))) (by rfl) sc__law_same.nd (pi_zipA (by rfl) T.m_zip (pa_cons (pv 0) (pa_cons (pv 1) pa_nil))) (blkOk_by (own := [("_law_one", 2), ("_law_other", 3)]) (N := ["_law_found", "_law_due", "_law_one", "_law_other"]) (sc := defScope s__law_same) (by decide +kernel)) (fun _ _ _ _ _ => (pg_tup rfl (pgs_cons (pg_name (i := 2) sc__law_same.nd rfl (by first | exact Or.inl rfl | exact Or.inr rfl)) (pgs_cons (pg_name (i := 3) sc__law_same.nd rfl (by first | exact Or.inl rfl | exact Or.inr rfl)) pgs_nil)))) (fun _ _ _ _ _ => pts_nil) (fun _ _ _ _ _ => (pe_call ih hr (by rfl) T.g__law_same T.F__law_same.kp T.b__law_same .nil pass0 (pa_cons (pv 2) (pa_cons (pv 3) pa_nil))))) pa_nil))))))) pss_nil)
      (pss_cons (ps_if (PW.pt (pw_or (pt_cmpR op_isN (pv 1) pe_non (nomark _)) (pw_or1 (pt_val (pe_callB call_isiT (by rfl) T.m_isinstance (by decide +kernel) (pa_cons (pv 1) (pa_cons (pe_tup (pa_cons (pe_bltn (v := .ty "str") (by rfl) T.m_str (by decide +kernel) rfl) (pa_cons (pe_bltn (v := .ty "bool") (by rfl) T.m_bool (by decide +kernel) rfl) pa_nil))) pa_nil))))))) (pss_one (ps_ret (pe_and (pe_cmpR op_eq (pe_callB call_isi (by rfl) T.m_isinstance (by decide +kernel) (pa_cons (pv 0) (pa_cons (pe_bltn (v := .ty "bool") (by rfl) T.m_bool (by decide +kernel) rfl) pa_nil))) (pe_callB call_isi (by rfl) T.m_isinstance (by decide +kernel) (pa_cons (pv 1) (pa_cons (pe_bltn (v := .ty "bool") (by rfl) T.m_bool (by decide +kernel) rfl) pa_nil))) (nomark _)) (pe_one (pe_cmpR op_eq (pv 0) (pv 1) (nomark _)))))) pss_nil)
      (pss_one (ps_ret (pe_and (pe_callB call_isi (by rfl) T.m_isinstance (by decide +kernel) (pa_cons (pv 0) (pa_cons (pe_bltn (v := .ty "int") (by rfl) T.m_int (by decide +kernel) rfl) pa_nil))) (pe_and (pe_not (pe_callB call_isi (by rfl) T.m_isinstance (by decide +kernel) (pa_cons (pv 0) (pa_cons (pe_bltn (v := .ty "bool") (by rfl) T.m_bool (by decide +kernel) rfl) pa_nil)))) (pe_one (pe_cmpR op_eq (pv 0) (pv 1) (nomark _))))))))), ?_⟩
      simp [tSeq, tAsg, tIf, tIfS, tVar, tC, tOp, tUn, rI, rI0, rU, tCB, tCons, tNil, tLst, tTup, tRet, gName, gCons, gNil, gSub, rSetL, tTest, tB, tNot, tAnd, tOr, tAndV, tOrV, tNotV, tNext, tDrop, tCall, tCallK, gKbV, tSl, tNoPart, tPart, tPar, rEq, rNe, tLc_eq, tFor_eq, iRng1, L2.start, cxOf, Cx.nox, StX.tStar]
      have s2 : 2 ≤ sizeLine := by rw [sizeLine_eq]; decide
      refine ⟨s2, fun p np => isi2 upd_same (Dp.same (Same.new np) hy) (kb_lst d) (kb_tpl d) ?_⟩
      have sp := Same.new (o := .tup [V.ty "list", V.ty "tuple"]) np
      have hx1 := Dp.same sp hx
      have hy1 := Dp.same sp hy
      generalize upd H p (.tup [V.ty "list", V.ty "tuple"]) = H1 at sp hx1 hy1
      clear np hx hy
      cases d with
      | none =>
        cases hx1; cases hy1
        refine .inl ⟨rfl, ?_⟩
        rw [if_pos rfl]
        exact isi1 (b := false) .non kb_NoneType_bool (isi1 (b := false) .non kb_NoneType_bool ⟨rfl, by rw [if_pos rfl]; exact ⟨rfl, by rw [decide_eq_true rfl]; exact q _ sp⟩⟩)
      | bool b =>
        cases hx1; cases hy1
        refine .inl ⟨rfl, ?_⟩
        rw [if_neg (by intro z; cases z)]
        refine ⟨s2, fun p2 np2 => isi2 upd_same (.bl b) kb_bool_str kb_bool_bool (.inr ⟨rfl, ?_⟩)⟩
        exact isi1 (.bl b) kb_bool_bool (isi1 (.bl b) kb_bool_bool ⟨rfl, by rw [if_pos rfl]; exact ⟨rfl, by rw [decide_eq_true rfl]; exact q _ (sp.trans (Same.new np2))⟩⟩)
      | str z =>
        cases hx1; cases hy1
        refine .inl ⟨rfl, ?_⟩
        rw [if_neg (by intro z; cases z)]
        refine ⟨s2, fun p2 np2 => isi2 upd_same (.str z) kb_str_str kb_str_bool (.inr ⟨rfl, ?_⟩)⟩
        exact isi1 (.str z) kb_str_bool (isi1 (.str z) kb_str_bool ⟨rfl, by rw [if_pos rfl]; exact ⟨rfl, by rw [decide_eq_true rfl]; exact q _ (sp.trans (Same.new np2))⟩⟩)
      | int i =>
        cases hx1; cases hy1
        refine .inl ⟨rfl, ?_⟩
        rw [if_neg (by intro z; cases z)]
        refine ⟨s2, fun p2 np2 => isi2 upd_same (.int i) kb_int_str kb_int_bool (.inl ⟨rfl, ?_⟩)⟩
        exact isi1 (.int i) kb_int_int (.inr ⟨rfl, isi1 (.int i) kb_int_bool (.inl ⟨rfl, rfl, by rw [decide_eq_true rfl]; exact q _ (sp.trans (Same.new np2))⟩)⟩)
      | dict kvs => cases hx1
      | list ds =>
        refine .inr ⟨rfl, ?_⟩
        refine isi1 hx1 kb_list_list (isi1 hy1 kb_list_list ⟨rfl, .inl ⟨rfl, isi1 hx1 kb_list_tuple (isi1 hy1 kb_list_tuple ⟨rfl, .inl ⟨rfl, ?_⟩⟩)⟩⟩)
        cases hx1 with
        | @lst a xs _ sa da =>
        cases hy1 with
        | @lst b ys _ sb db =>
        have lx := DpAll.len da
        have ly := DpAll.len db
        refine ⟨xs.length, .inl ⟨xs, sa, rfl⟩, ys.length, .inl ⟨ys, sb, rfl⟩, rfl, ?_⟩
        rw [if_pos (by rw [lx, ly])]
        refine ⟨.ref a, rfl, .ref b, rfl, a, b, xs, ys, rfl, .inl ⟨sa, sb, ?_⟩⟩
        cases n with
        | zero => exact hd.elim
        | succ n =>
        obtain ⟨hd1, hd2⟩ := hd
        refine lcK (walk_zip (xs := xs) (ys := ys) (n := xs.length) (by omega)) (Psame H1) (fun D nD => ⟨Same.new nD, upd_same⟩) (fun D i H' _ h => ⟨h.1.seq sa, h.1.seq sb⟩) (fun D i v Ha Hb nD hi hp hyy => ?_) (fun D Ha nD hp => ?_)
        · obtain ⟨T1, u, v, rfl, nT, rfl, eu, ev⟩ := hyy
          obtain ⟨du, e1, h1⟩ := DpAll.at da eu
          obtain ⟨dv, e2, h2⟩ := DpAll.at db ev
          rw [e1] at e2; cases e2
          refine gTup2 (.inl (.inl upd_same)) ?_
          simp [tSeq, tAsg, tIf, tIfS, tVar, tC, tOp, tUn, rI, rI0, rU, tCB, tCons, tNil, tLst, tTup, tRet, gName, gCons, gNil, gSub, rSetL, tTest, tB, tNot, tAnd, tOr, tAndV, tOrV, tNotV, tNext, tDrop, tCall, tCallK, gKbV, tSl, tNoPart, tPart, tPar, rEq, rNe, tLc_eq, tFor_eq, iRng1, L2.start, cxOf, Cx.nox, StX.tStar, wipe, tYes]
          have sm := hp.1.trans (Same.new (o := .tup [u, v]) nT)
          refine ⟨u, v, du, rfl, Dp.same sm h1, Dp.same sm h2, hd2 _ (List.mem_of_getElem? e1), fun H' s' => ⟨_, s' _ _ (Same.new nT _ _ hp.2), by rw [List.length_replicate, sizeLine_eq]; omega, ?_, ?_⟩⟩
          · exact fun b o e => by rw [upd_ne (ne_of_none e nD)]; exact s' _ _ (sm _ _ e)
          · rw [upd_same]; simp [List.replicate_succ']
        · refine ⟨D, List.replicate xs.length true, rfl, .inl (.inl ?_), ?_⟩
          · rw [hp.2, List.map_replicate]
          · rw [show (List.replicate xs.length true).all id = true by simp]
            exact q _ (sp.trans hp.1)
      | tuple ds =>
        refine .inr ⟨rfl, ?_⟩
        refine isi1 hx1 kb_tuple_list (isi1 hy1 kb_tuple_list ⟨rfl, .inl ⟨rfl, isi1 hx1 kb_tuple_tuple (isi1 hy1 kb_tuple_tuple ⟨rfl, .inl ⟨rfl, ?_⟩⟩)⟩⟩)
        cases hx1 with
        | @tup a xs _ sa da =>
        cases hy1 with
        | @tup b ys _ sb db =>
        have lx := DpAll.len da
        have ly := DpAll.len db
        refine ⟨xs.length, .inr ⟨xs, sa, rfl⟩, ys.length, .inr ⟨ys, sb, rfl⟩, rfl, ?_⟩
        rw [if_pos (by rw [lx, ly])]
        refine ⟨.ref a, rfl, .ref b, rfl, a, b, xs, ys, rfl, .inr ⟨sa, sb, ?_⟩⟩
        cases n with
        | zero => exact hd.elim
        | succ n =>
        obtain ⟨hd1, hd2⟩ := hd
        refine lcK (walk_zipT (xs := xs) (ys := ys) (n := xs.length) (by omega)) (Psame H1) (fun D nD => ⟨Same.new nD, upd_same⟩) (fun D i H' _ h => ⟨Same.seqT h.1 sa, Same.seqT h.1 sb⟩) (fun D i v Ha Hb nD hi hp hyy => ?_) (fun D Ha nD hp => ?_)
        · obtain ⟨T1, u, v, rfl, nT, rfl, eu, ev⟩ := hyy
          obtain ⟨du, e1, h1⟩ := DpAll.at da eu
          obtain ⟨dv, e2, h2⟩ := DpAll.at db ev
          rw [e1] at e2; cases e2
          refine gTup2 (.inl (.inl upd_same)) ?_
          simp [tSeq, tAsg, tIf, tIfS, tVar, tC, tOp, tUn, rI, rI0, rU, tCB, tCons, tNil, tLst, tTup, tRet, gName, gCons, gNil, gSub, rSetL, tTest, tB, tNot, tAnd, tOr, tAndV, tOrV, tNotV, tNext, tDrop, tCall, tCallK, gKbV, tSl, tNoPart, tPart, tPar, rEq, rNe, tLc_eq, tFor_eq, iRng1, L2.start, cxOf, Cx.nox, StX.tStar, wipe, tYes]
          have sm := hp.1.trans (Same.new (o := .tup [u, v]) nT)
          refine ⟨u, v, du, rfl, Dp.same sm h1, Dp.same sm h2, hd2 _ (List.mem_of_getElem? e1), fun H' s' => ⟨_, s' _ _ (Same.new nT _ _ hp.2), by rw [List.length_replicate, sizeLine_eq]; omega, ?_, ?_⟩⟩
          · exact fun b o e => by rw [upd_ne (ne_of_none e nD)]; exact s' _ _ (sm _ _ e)
          · rw [upd_same]; simp [List.replicate_succ']
        · refine ⟨D, List.replicate xs.length true, rfl, .inl (.inl ?_), ?_⟩
          · rw [hp.2, List.map_replicate]
          · rw [show (List.replicate xs.length true).all id = true by simp]
            exact q _ (sp.trans hp.1)
end
theorem sc__law_lists : FnScope ["_law_thing", "_law_one"] ["_law_thing"] (defScope s__law_lists) := ⟨rfl, rfl, rfl, by decide +kernel, rfl, by decide +kernel, by decide +kernel⟩
section
variable {P : Program} {w : World} {K : PySem.W.Frag} {mg : Str → Option Value} {base : Heap}
def sp__law_lists (K : PySem.W.Frag) : Nat → Sp
  | 0 => fun _ _ _ _ => False
  | n + 1 => fun vs H Q _ => ∃ (x : V) (d : PyData), vs = [x] ∧ Dp K H x d ∧ Deep n d ∧ ∀ v H', Same H H' → Dz K (news H H') v (listy d) → Q v H'
def Plist (K : PySem.W.Frag) (H : Hp) (ds : List PyData) (D : Addr) (i : Nat) (H' : Hp) : Prop := ∃ vs, Same H (mask D H') ∧ H' D = some (.lst vs) ∧ vs.length = i ∧ DzAll K (mask D (news H H')) vs ((ds.take i).map listy)
theorem ok__law_lists (T : Txt K mg) : ∀ n, FnOk P w K mg base CX0 n T.f__law_lists T.fd__law_lists ["_law_thing"] (sp__law_lists K n)
  | 0 => ⟨fun _ _ _ _ h => h.elim, fun _ _ _ _ _ _ _ _ _ _ _ _ _ h => h.elim⟩
  | n + 1 => by
    have ih := ok__law_lists T n
    refine T.F__law_lists.ok sc__law_lists (fun vs H Q E h => ?_) (fun cdv A outer s H vs Q E hr h => ?_)
    · obtain ⟨x, d, rfl, _⟩ := h
      rfl
    · obtain ⟨x, d, rfl, hx, hd, q⟩ := h
      refine ⟨_, (pss_one (ps_ret (pe_ifExp (pt_val (pe_callB call_isiT (by rfl) T.m_isinstance (by decide +kernel) (pa_cons (pv 0) (pa_cons (pe_tup (pa_cons (pe_bltn (v := .ty "list") (by rfl) T.m_list (by decide +kernel) rfl) (pa_cons (pe_bltn (v := .ty "tuple") (by rfl) T.m_tuple (by decide +kernel) rfl) pa_nil))) pa_nil)))) (pe_lc (own := [("_law_one", 1)]) (g := (gName 1)) (tt := tYes) (te := (tCall (sp__law_lists K n) [] E0 (tCons (tVar 1) tNil))) (by rfl) sc__law_lists.nd (pi_seq (pv 0)) (blkOk_by (own := [("_law_one", 1)]) (N := ["_law_thing", "_law_one"]) (sc := defScope s__law_lists) (by decide +kernel)) (fun _ _ _ _ _ => (pg_name (i := 1) sc__law_lists.nd rfl (by first | exact Or.inl rfl | exact Or.inr rfl))) (fun _ _ _ _ _ => pts_nil) (fun _ _ _ _ _ => (pe_call ih hr (by rfl) T.g__law_lists T.F__law_lists.kp T.b__law_lists .nil pass0 (pa_cons (pv 1) pa_nil)))) (pv 0)))), ?_⟩
      simp [tSeq, tAsg, tIf, tIfS, tVar, tC, tOp, tUn, rI, rI0, rU, tCB, tCons, tNil, tLst, tTup, tRet, gName, gCons, gNil, gSub, rSetL, tTest, tB, tNot, tAnd, tOr, tAndV, tOrV, tNotV, tNext, tDrop, tCall, tCallK, gKbV, tSl, tNoPart, tPart, tPar, rEq, rNe, tLc_eq, tFor_eq, iRng1, L2.start, cxOf, Cx.nox, StX.tStar]
      have s2 : 2 ≤ sizeLine := by rw [sizeLine_eq]; decide
      refine ⟨s2, fun p np => isi2 upd_same (Dp.same (Same.new np) hx) (kb_lst d) (kb_tpl d) ?_⟩
      have sp := Same.new (o := .tup [V.ty "list", V.ty "tuple"]) np
      have hx1 := Dp.same sp hx
      generalize upd H p (.tup [V.ty "list", V.ty "tuple"]) = H1 at sp hx1
      clear np hx
      have seqs : ∀ (a : Addr) (xs : List V) (ds : List PyData), x = .ref a → (SqL K H1 a xs ∨ SqT K H1 a xs) → DpAll K H1 xs ds → Deep n (.list ds) → listy d = .list (listys ds) → iSeq K (tVar 0) [some x, none] H1 fun J H1 => LcK J (gName 1) tYes (tCall (sp__law_lists K n) [] E0 (tCons (tVar 1) tNil)) [1] [some x, none] H1 Q := by
        intro a xs ds ex hs ha hdd el
        subst ex
        have lx := DpAll.len ha
        cases n with
        | zero => exact hdd.elim
        | succ n =>
        obtain ⟨hd1, hd2⟩ := hdd
        refine walk_any rfl hs fun J wk => lcK wk (Plist K H1 ds) (fun D nD => ⟨[], mask_into nD (Same.new nD), upd_same, rfl, .nil⟩) (fun D i H' _ h => h.elim fun _ h => mask_to h.1) (fun D i y Ha Hb nD hi hp hy => ?_) (fun D Hg nD hp => ?_)
        · obtain ⟨vs, s1, eD, lv, dv⟩ := hp
          obtain ⟨rfl, hy'⟩ := hy
          obtain ⟨dy, e1, h1⟩ := DpAll.at ha hy'
          simp [tSeq, tAsg, tIf, tIfS, tVar, tC, tOp, tUn, rI, rI0, rU, tCB, tCons, tNil, tLst, tTup, tRet, gName, gCons, gNil, gSub, rSetL, tTest, tB, tNot, tAnd, tOr, tAndV, tOrV, tNotV, tNext, tDrop, tCall, tCallK, gKbV, tSl, tNoPart, tPart, tPar, rEq, rNe, tLc_eq, tFor_eq, iRng1, L2.start, cxOf, Cx.nox, StX.tStar, wipe, tYes]
          refine ⟨y, dy, rfl, Dp.same (mask_to s1) h1, hd2 _ (List.mem_of_getElem? e1), fun v H' sH dv' => ?_⟩
          have nb : ∀ {b : Addr}, Hb b = none → H1 b = none := fun {b} e => by
            cases z : H1 b with
            | none => rfl
            | some u => rw [mask_to s1 b u z] at e; cases e
          refine ⟨vs, sH _ _ eD, by rw [sizeLine_eq]; omega, vs ++ [v], ?_, upd_same, by simp [lv], ?_⟩
          · rw [mask_upd]; exact s1.trans (mask_on sH)
          · rw [take_at e1, List.map_append]
            refine DzAll.snoc (DzAll.same (fun b o e => ?_) dv) (Dz.same (fun b o e => ?_) dv')
            · by_cases bD : b = D
              · rw [bD] at e; simp [mask] at e
              · rw [mask_ne bD] at e ⊢
                obtain ⟨g1, g2⟩ := news_some e
                rw [news_at g1, upd_ne bD]; exact sH _ _ g2
            · obtain ⟨g1, g2⟩ := news_some e
              have bD : b ≠ D := fun z => by rw [z, eD] at g1; cases g1
              rw [mask_ne bD, news_at (nb g1), upd_ne bD]; exact g2
        · obtain ⟨vs, s1, eD, lv, dv⟩ := hp
          rw [lx, List.take_length] at dv
          refine q (.ref D) Hg (sp.trans (mask_to s1)) ?_
          rw [el, listys_eq]
          exact Dz.same (news_on sp) (.lst (.inl (.inl (by rw [news_at nD]; exact eD))) (DzAll.same (mask_same D _) dv))
      cases d with
      | none => cases hx1; exact .inl ⟨rfl, q _ _ sp .non⟩
      | bool b => cases hx1; exact .inl ⟨rfl, q _ _ sp (.bl b)⟩
      | int i => cases hx1; exact .inl ⟨rfl, q _ _ sp (.int i)⟩
      | str z => cases hx1; exact .inl ⟨rfl, q _ _ sp (.str z)⟩
      | dict kvs => cases hx1
      | list ds =>
        refine .inr ⟨rfl, ?_⟩
        cases hx1 with
        | lst hs ha => exact seqs _ _ _ rfl (.inl hs) ha hd (by simp [listy])
      | tuple ds =>
        refine .inr ⟨rfl, ?_⟩
        cases hx1 with
        | tup hs ha => exact seqs _ _ _ rfl (.inr hs) ha (by cases n <;> exact hd) (by simp [listy])
end
theorem sc_is_within : FnScope ["one", "other", "name"] ["one", "other"] (defScope s_is_within) := ⟨rfl, rfl, rfl, by decide +kernel, rfl, by decide +kernel, by decide +kernel⟩
theorem sc__law_within : FnScope ["_law_one", "_law_other", "_law_name"] ["_law_one", "_law_other"] (defScope s__law_within) := ⟨rfl, rfl, rfl, by decide +kernel, rfl, by decide +kernel, by decide +kernel⟩
section
variable {P : Program} {w : World} {K : PySem.W.Frag} {mg : Str → Option Value} {base : Heap}
theorem ok_is_within (T : Txt K mg) : FnOk P w K mg base CX0 1 T.f_is_within T.fd_is_within ["one", "other"] (spF K [false, false] wf_in) := by
  refine T.F_is_within.ok sc_is_within (fun vs H Q E h => spF_len h) (fun cdv A outer s H vs Q E hr h => ?_)
  refine ⟨_, (pss_one (ps_ret (pe_callB (cr_all rfl) (by rfl) T.m_all (by decide +kernel) (pa_cons (pe_lc (own := [("name", 2)]) (g := (gName 2)) (tt := tYes) (te := (tOp (rIn K false) (tVar 2) (tVar 1))) (by rfl) sc_is_within.nd (pi_any (pv 0)) (blkOk_by (own := [("name", 2)]) (N := ["one", "other", "name"]) (sc := defScope s_is_within) (by decide +kernel)) (fun _ _ _ _ _ => (pg_name (i := 2) sc_is_within.nd rfl (by first | exact Or.inl rfl | exact Or.inr rfl))) (fun _ _ _ _ _ => pts_nil) (fun _ _ _ _ _ => (pe_cmpR op_in_seq (pv 2) (pv 1) (by rfl)))) pa_nil)))), ?_⟩
  dsimp only [cxOf, Cx.nox, List.map]
  refine pu_fn h (fun g ds hp => ?_)
  obtain ⟨a, b, rfl, ea, eb, hl⟩ := hp
  obtain ⟨ia, sa⟩ := tx_of ea
  obtain ⟨ib, sb⟩ := tx_of eb
  simp [initA, sRet, dB1, fAll, fAny, dVal, dLc, lLc, iSq, dRd, dVar, dFz, sSeq, sNext, sAsg, sOwn, sIf, sFor, sApp, sRetN, sDrop, sPar, sPar3, dC, dV, dOp, fI, fI0, fEq, fNe, fEqD, fNeD, fIn, dIx, dIxR, dTest, dNot, dAnd, dOr, dYes, dIfE, dAndV, dOrV, dNotV, dNeg, dNil, dCons, dConsR, dStar, dLst, dTup, lLst, lVar, lSl, lList, lCat, dL, dRep, gdName, gdNil, gdCons, gdSq, gdTup, bnd, iRg, iEn, iZp, zLv, dSl, dNoPart, dPart, fSlL, fSlT, fSlS, fLen, fLenA, fLenT, fList, fTuple, dCall0, dCallX, dCallT, WF.wp, lcStep, wipeD, lcOk, isOwn, isOwL, Lv.ch, Lv.sh, sc_n, sc_b, sc_i, sc_s, sc_l, sc_t, scD_ss, scD_ii, scD_bb, eqS_ss, eqS_ii, eqS_bb, isNo, okU, thn_rt, thn_bk, thn_ct, DEnds.loop, sCont, sBreak, fInt1, fMax2, fMin2, fIsi, fIsi2, dSetS, sParN, lRev, dDraw, dNames, dPartT, fSortS, fSortD, fRepr, fInD, fNotT, dTru, fIsB, tru, dSame, dCallK, fInA, dRevT, fRevT, dCount, dCatT, notP_V, notP_R, notP_l, dIdx, sRaise, fSlQ, cutD, true_and, sTry, bDrop, bAsg, bIf, dIsH, dWhat, sPop, sIns, sParO, dLists, lCatL, dCallN, dCallNN, sParD, fMaxI, fSortI, sSeg, dStrewn, sSegB, dRepZ, mDictT, mDict, mVar, dGetI, dGet1, dGet2, dCallM, sMap, dMinIx, dCallP, dCallPX, lkAt, sTupO, sTupM, sPar3N, bAsgP, dCallPK, dCallPP, fSortQ, sTupO, sTupM, sTupE, dIsNoX, sSegL, sa, sb]
  refine ⟨_, ia, ?_⟩
  refine lcGo_map (al_map _ _) (fun x => .bool (decide (x ∈ g.2))) (small hl) ?_ ?_
  · refine ⟨g.1.map fun x => decide (x ∈ g.2), by simp, ?_⟩
    show PyData.bool _ = _
    rw [inAll_take]
  · rintro _ x acc k' hx rfl la q
    simp [initA, sRet, dB1, fAll, fAny, dVal, dLc, lLc, iSq, dRd, dVar, dFz, sSeq, sNext, sAsg, sOwn, sIf, sFor, sApp, sRetN, sDrop, sPar, sPar3, dC, dV, dOp, fI, fI0, fEq, fNe, fEqD, fNeD, fIn, dIx, dIxR, dTest, dNot, dAnd, dOr, dYes, dIfE, dAndV, dOrV, dNotV, dNeg, dNil, dCons, dConsR, dStar, dLst, dTup, lLst, lVar, lSl, lList, lCat, dL, dRep, gdName, gdNil, gdCons, gdSq, gdTup, bnd, iRg, iEn, iZp, zLv, dSl, dNoPart, dPart, fSlL, fSlT, fSlS, fLen, fLenA, fLenT, fList, fTuple, dCall0, dCallX, dCallT, WF.wp, lcStep, wipeD, lcOk, isOwn, isOwL, Lv.ch, Lv.sh, sc_n, sc_b, sc_i, sc_s, sc_l, sc_t, scD_ss, scD_ii, scD_bb, eqS_ss, eqS_ii, eqS_bb, isNo, okU, thn_rt, thn_bk, thn_ct, DEnds.loop, sCont, sBreak, fInt1, fMax2, fMin2, fIsi, fIsi2, dSetS, sParN, lRev, dDraw, dNames, dPartT, fSortS, fSortD, fRepr, fInD, fNotT, dTru, fIsB, tru, dSame, dCallK, fInA, dRevT, fRevT, dCount, dCatT, notP_V, notP_R, notP_l, dIdx, sRaise, fSlQ, cutD, true_and, sTry, bDrop, bAsg, bIf, dIsH, dWhat, sPop, sIns, sParO, dLists, lCatL, dCallN, dCallNN, sParD, fMaxI, fSortI, sSeg, dStrewn, sSegB, dRepZ, mDictT, mDict, mVar, dGetI, dGet1, dGet2, dCallM, sMap, dMinIx, dCallP, dCallPX, lkAt, sTupO, sTupM, sPar3N, bAsgP, dCallPK, dCallPP, fSortQ, sTupO, sTupM, sTupE, dIsNoX, sSegL]
    refine ⟨_, ib, sc_strsM _, la, ?_⟩
    rw [inD_strs]; exact q
theorem ok__law_within (T : Txt K mg) : FnOk P w K mg base CX0 1 T.f__law_within T.fd__law_within ["_law_one", "_law_other"] (spF K [false, false] wf_in) := by
  refine T.F__law_within.ok sc__law_within (fun vs H Q E h => spF_len h) (fun cdv A outer s H vs Q E hr h => ?_)
  refine ⟨_, (pss_one (ps_ret (pe_callB (cr_all rfl) (by rfl) T.m_all (by decide +kernel) (pa_cons (pe_lc (own := [("_law_name", 2)]) (g := (gName 2)) (tt := tYes) (te := (tOp (rIn K false) (tVar 2) (tVar 1))) (by rfl) sc__law_within.nd (pi_any (pv 0)) (blkOk_by (own := [("_law_name", 2)]) (N := ["_law_one", "_law_other", "_law_name"]) (sc := defScope s__law_within) (by decide +kernel)) (fun _ _ _ _ _ => (pg_name (i := 2) sc__law_within.nd rfl (by first | exact Or.inl rfl | exact Or.inr rfl))) (fun _ _ _ _ _ => pts_nil) (fun _ _ _ _ _ => (pe_cmpR op_in_seq (pv 2) (pv 1) (by rfl)))) pa_nil)))), ?_⟩
  dsimp only [cxOf, Cx.nox, List.map]
  refine pu_fn h (fun g ds hp => ?_)
  obtain ⟨a, b, rfl, ea, eb, hl⟩ := hp
  obtain ⟨ia, sa⟩ := tx_of ea
  obtain ⟨ib, sb⟩ := tx_of eb
  simp [initA, sRet, dB1, fAll, fAny, dVal, dLc, lLc, iSq, dRd, dVar, dFz, sSeq, sNext, sAsg, sOwn, sIf, sFor, sApp, sRetN, sDrop, sPar, sPar3, dC, dV, dOp, fI, fI0, fEq, fNe, fEqD, fNeD, fIn, dIx, dIxR, dTest, dNot, dAnd, dOr, dYes, dIfE, dAndV, dOrV, dNotV, dNeg, dNil, dCons, dConsR, dStar, dLst, dTup, lLst, lVar, lSl, lList, lCat, dL, dRep, gdName, gdNil, gdCons, gdSq, gdTup, bnd, iRg, iEn, iZp, zLv, dSl, dNoPart, dPart, fSlL, fSlT, fSlS, fLen, fLenA, fLenT, fList, fTuple, dCall0, dCallX, dCallT, WF.wp, lcStep, wipeD, lcOk, isOwn, isOwL, Lv.ch, Lv.sh, sc_n, sc_b, sc_i, sc_s, sc_l, sc_t, scD_ss, scD_ii, scD_bb, eqS_ss, eqS_ii, eqS_bb, isNo, okU, thn_rt, thn_bk, thn_ct, DEnds.loop, sCont, sBreak, fInt1, fMax2, fMin2, fIsi, fIsi2, dSetS, sParN, lRev, dDraw, dNames, dPartT, fSortS, fSortD, fRepr, fInD, fNotT, dTru, fIsB, tru, dSame, dCallK, fInA, dRevT, fRevT, dCount, dCatT, notP_V, notP_R, notP_l, dIdx, sRaise, fSlQ, cutD, true_and, sTry, bDrop, bAsg, bIf, dIsH, dWhat, sPop, sIns, sParO, dLists, lCatL, dCallN, dCallNN, sParD, fMaxI, fSortI, sSeg, dStrewn, sSegB, dRepZ, mDictT, mDict, mVar, dGetI, dGet1, dGet2, dCallM, sMap, dMinIx, dCallP, dCallPX, lkAt, sTupO, sTupM, sPar3N, bAsgP, dCallPK, dCallPP, fSortQ, sTupO, sTupM, sTupE, dIsNoX, sSegL, sa, sb]
  refine ⟨_, ia, ?_⟩
  refine lcGo_map (al_map _ _) (fun x => .bool (decide (x ∈ g.2))) (small hl) ?_ ?_
  · refine ⟨g.1.map fun x => decide (x ∈ g.2), by simp, ?_⟩
    show PyData.bool _ = _
    rw [inAll_take]
  · rintro _ x acc k' hx rfl la q
    simp [initA, sRet, dB1, fAll, fAny, dVal, dLc, lLc, iSq, dRd, dVar, dFz, sSeq, sNext, sAsg, sOwn, sIf, sFor, sApp, sRetN, sDrop, sPar, sPar3, dC, dV, dOp, fI, fI0, fEq, fNe, fEqD, fNeD, fIn, dIx, dIxR, dTest, dNot, dAnd, dOr, dYes, dIfE, dAndV, dOrV, dNotV, dNeg, dNil, dCons, dConsR, dStar, dLst, dTup, lLst, lVar, lSl, lList, lCat, dL, dRep, gdName, gdNil, gdCons, gdSq, gdTup, bnd, iRg, iEn, iZp, zLv, dSl, dNoPart, dPart, fSlL, fSlT, fSlS, fLen, fLenA, fLenT, fList, fTuple, dCall0, dCallX, dCallT, WF.wp, lcStep, wipeD, lcOk, isOwn, isOwL, Lv.ch, Lv.sh, sc_n, sc_b, sc_i, sc_s, sc_l, sc_t, scD_ss, scD_ii, scD_bb, eqS_ss, eqS_ii, eqS_bb, isNo, okU, thn_rt, thn_bk, thn_ct, DEnds.loop, sCont, sBreak, fInt1, fMax2, fMin2, fIsi, fIsi2, dSetS, sParN, lRev, dDraw, dNames, dPartT, fSortS, fSortD, fRepr, fInD, fNotT, dTru, fIsB, tru, dSame, dCallK, fInA, dRevT, fRevT, dCount, dCatT, notP_V, notP_R, notP_l, dIdx, sRaise, fSlQ, cutD, true_and, sTry, bDrop, bAsg, bIf, dIsH, dWhat, sPop, sIns, sParO, dLists, lCatL, dCallN, dCallNN, sParD, fMaxI, fSortI, sSeg, dStrewn, sSegB, dRepZ, mDictT, mDict, mVar, dGetI, dGet1, dGet2, dCallM, sMap, dMinIx, dCallP, dCallPX, lkAt, sTupO, sTupM, sPar3N, bAsgP, dCallPK, dCallPP, fSortQ, sTupO, sTupM, sTupE, dIsNoX, sSegL]
    refine ⟨_, ib, sc_strsM _, la, ?_⟩
    rw [inD_strs]; exact q
end
theorem sc_has_one_within : FnScope ["lots", "gone", "lot"] ["lots", "gone"] (defScope s_has_one_within) := ⟨rfl, rfl, rfl, by decide +kernel, rfl, by decide +kernel, by decide +kernel⟩
theorem sc_ripe : FnScope ["orchard", "gone", "fruit", "lots"] ["orchard", "gone"] (defScope s_ripe) := ⟨rfl, rfl, rfl, by decide +kernel, rfl, by decide +kernel, by decide +kernel⟩
section
variable {P : Program} {w : World} {K : PySem.W.Frag} {mg : Str → Option Value} {base : Heap}
theorem ok_has_one_within (T : Txt K mg) : FnOk P w K mg base CX0 2 T.f_has_one_within T.fd_has_one_within ["lots", "gone"] (spF K [false, false] wf_one) := by
  refine T.F_has_one_within.ok sc_has_one_within (fun vs H Q E h => spF_len h) (fun cdv A outer s H vs Q E hr h => ?_)
  refine ⟨_, (pss_one (ps_ret (pe_callB (cr_any rfl) (by rfl) T.m_any (by decide +kernel) (pa_cons (pe_lc (own := [("lot", 2)]) (g := (gName 2)) (tt := tYes) (te := (tCall (spF K [false, false] wf_in) [] E0 (tCons (tVar 2) (tCons (tVar 1) tNil)))) (by rfl) sc_has_one_within.nd (pi_any (pv 0)) (blkOk_by (own := [("lot", 2)]) (N := ["lots", "gone", "lot"]) (sc := defScope s_has_one_within) (by decide +kernel)) (fun _ _ _ _ _ => (pg_name (i := 2) sc_has_one_within.nd rfl (by first | exact Or.inl rfl | exact Or.inr rfl))) (fun _ _ _ _ _ => pts_nil) (fun _ _ _ _ _ => (pe_call (ok_is_within T) (hr.mono (by decide)) (by rfl) T.g_is_within T.F_is_within.kp T.b_is_within .nil pass0 (pa_cons (pv 2) (pa_cons (pv 1) pa_nil))))) pa_nil)))), ?_⟩
  dsimp only [cxOf, Cx.nox, List.map]
  refine pu_fn h (fun g ds hp => ?_)
  obtain ⟨a, b, rfl, ea, eb, hl, hz⟩ := hp
  obtain ⟨ds, ia, sa, al⟩ := lots_of' ea
  obtain ⟨ib, sb⟩ := tx_of eb
  simp [initA, sRet, dB1, fAll, fAny, dVal, dLc, lLc, iSq, dRd, dVar, dFz, sSeq, sNext, sAsg, sOwn, sIf, sFor, sApp, sRetN, sDrop, sPar, sPar3, dC, dV, dOp, fI, fI0, fEq, fNe, fEqD, fNeD, fIn, dIx, dIxR, dTest, dNot, dAnd, dOr, dYes, dIfE, dAndV, dOrV, dNotV, dNeg, dNil, dCons, dConsR, dStar, dLst, dTup, lLst, lVar, lSl, lList, lCat, dL, dRep, gdName, gdNil, gdCons, gdSq, gdTup, bnd, iRg, iEn, iZp, zLv, dSl, dNoPart, dPart, fSlL, fSlT, fSlS, fLen, fLenA, fLenT, fList, fTuple, dCall0, dCallX, dCallT, WF.wp, lcStep, wipeD, lcOk, isOwn, isOwL, Lv.ch, Lv.sh, sc_n, sc_b, sc_i, sc_s, sc_l, sc_t, scD_ss, scD_ii, scD_bb, eqS_ss, eqS_ii, eqS_bb, isNo, okU, thn_rt, thn_bk, thn_ct, DEnds.loop, sCont, sBreak, fInt1, fMax2, fMin2, fIsi, fIsi2, dSetS, sParN, lRev, dDraw, dNames, dPartT, fSortS, fSortD, fRepr, fInD, fNotT, dTru, fIsB, tru, dSame, dCallK, fInA, dRevT, fRevT, dCount, dCatT, notP_V, notP_R, notP_l, dIdx, sRaise, fSlQ, cutD, true_and, sTry, bDrop, bAsg, bIf, dIsH, dWhat, sPop, sIns, sParO, dLists, lCatL, dCallN, dCallNN, sParD, fMaxI, fSortI, sSeg, dStrewn, sSegB, dRepZ, mDictT, mDict, mVar, dGetI, dGet1, dGet2, dCallM, sMap, dMinIx, dCallP, dCallPX, lkAt, sTupO, sTupM, sPar3N, bAsgP, dCallPK, dCallPP, fSortQ, sTupO, sTupM, sTupE, dIsNoX, sSegL, sa, sb]
  refine ⟨_, ia, ?_⟩
  refine lcGo_map al (fun z => .bool (inAll z g.2)) (small hl) ?_ ?_
  · refine ⟨g.1.map fun z => inAll z g.2, by simp, ?_⟩
    show PyData.bool _ = _
    rw [inOne_map]
  · rintro d z acc k' hx hd la q
    obtain ⟨id, sd⟩ := tx_of hd
    simp [initA, sRet, dB1, fAll, fAny, dVal, dLc, lLc, iSq, dRd, dVar, dFz, sSeq, sNext, sAsg, sOwn, sIf, sFor, sApp, sRetN, sDrop, sPar, sPar3, dC, dV, dOp, fI, fI0, fEq, fNe, fEqD, fNeD, fIn, dIx, dIxR, dTest, dNot, dAnd, dOr, dYes, dIfE, dAndV, dOrV, dNotV, dNeg, dNil, dCons, dConsR, dStar, dLst, dTup, lLst, lVar, lSl, lList, lCat, dL, dRep, gdName, gdNil, gdCons, gdSq, gdTup, bnd, iRg, iEn, iZp, zLv, dSl, dNoPart, dPart, fSlL, fSlT, fSlS, fLen, fLenA, fLenT, fList, fTuple, dCall0, dCallX, dCallT, WF.wp, lcStep, wipeD, lcOk, isOwn, isOwL, Lv.ch, Lv.sh, sc_n, sc_b, sc_i, sc_s, sc_l, sc_t, scD_ss, scD_ii, scD_bb, eqS_ss, eqS_ii, eqS_bb, isNo, okU, thn_rt, thn_bk, thn_ct, DEnds.loop, sCont, sBreak, fInt1, fMax2, fMin2, fIsi, fIsi2, dSetS, sParN, lRev, dDraw, dNames, dPartT, fSortS, fSortD, fRepr, fInD, fNotT, dTru, fIsB, tru, dSame, dCallK, fInA, dRevT, fRevT, dCount, dCatT, notP_V, notP_R, notP_l, dIdx, sRaise, fSlQ, cutD, true_and, sTry, bDrop, bAsg, bIf, dIsH, dWhat, sPop, sIns, sParO, dLists, lCatL, dCallN, dCallNN, sParD, fMaxI, fSortI, sSeg, dStrewn, sSegB, dRepZ, mDictT, mDict, mVar, dGetI, dGet1, dGet2, dCallM, sMap, dMinIx, dCallP, dCallPX, lkAt, sTupO, sTupM, sPar3N, bAsgP, dCallPK, dCallPP, fSortQ, sTupO, sTupM, sTupE, dIsNoX, sSegL, sd]
    exact ⟨(z, g.2), ⟨_, _, rfl, hd, eb, hz z hx⟩, by rintro _ _ rfl; exact ⟨la, q⟩, fun _ _ z => z⟩
theorem ok_ripe (T : Txt K mg) : FnOk P w K mg base CX0 3 T.f_ripe T.fd_ripe ["orchard", "gone"] (spF K [false, false] wf_ripe) := by
  refine T.F_ripe.ok sc_ripe (fun vs H Q E h => spF_len h) (fun cdv A outer s H vs Q E hr h => ?_)
  refine ⟨_, (pss_one (ps_ret (pe_lc (own := [("fruit", 2), ("lots", 3)]) (g := (gSq K 2 (gCons (gName 2) (gCons (gName 3) gNil)))) (tt := (tAnd (tTest (tOp (rIn K true) (tVar 2) (tVar 1))) (tB (tCall (spF K [false, false] wf_one) [] E0 (tCons (tVar 3) (tCons (tVar 1) tNil)))))) (te := (tVar 2)) (by rfl) sc_ripe.nd (pi_any (pv 0)) (blkOk_by (own := [("fruit", 2), ("lots", 3)]) (N := ["orchard", "gone", "fruit", "lots"]) (sc := defScope s_ripe) (by decide +kernel)) (fun _ _ _ _ _ => (pg_sq (n := 2) rfl (pgs_cons (pg_name (i := 2) sc_ripe.nd rfl (by first | exact Or.inl rfl | exact Or.inr rfl)) (pgs_cons (pg_name (i := 3) sc_ripe.nd rfl (by first | exact Or.inl rfl | exact Or.inr rfl)) pgs_nil)))) (fun _ _ _ _ _ => (pts_one (PW.pt (pw_and (pt_cmpR op_notIn_seq (pv 2) (pv 1) (by rfl)) (pw_and1 (pt_val (pe_call (ok_has_one_within T) (hr.mono (by decide)) (by rfl) T.g_has_one_within T.F_has_one_within.kp T.b_has_one_within .nil pass0 (pa_cons (pv 3) (pa_cons (pv 1) pa_nil))))))))) (fun _ _ _ _ _ => (pv 2))))), ?_⟩
  dsimp only [cxOf, Cx.nox, List.map]
  refine pu_fn h (fun g ds hp => ?_)
  obtain ⟨a, b, rfl, ea, eb, hG⟩ := hp
  obtain ⟨ds, ia, sa, al⟩ := gr_of ea
  obtain ⟨ib, sb⟩ := tx_of eb
  simp [initA, sRet, dB1, fAll, fAny, dVal, dLc, lLc, iSq, dRd, dVar, dFz, sSeq, sNext, sAsg, sOwn, sIf, sFor, sApp, sRetN, sDrop, sPar, sPar3, dC, dV, dOp, fI, fI0, fEq, fNe, fEqD, fNeD, fIn, dIx, dIxR, dTest, dNot, dAnd, dOr, dYes, dIfE, dAndV, dOrV, dNotV, dNeg, dNil, dCons, dConsR, dStar, dLst, dTup, lLst, lVar, lSl, lList, lCat, dL, dRep, gdName, gdNil, gdCons, gdSq, gdTup, bnd, iRg, iEn, iZp, zLv, dSl, dNoPart, dPart, fSlL, fSlT, fSlS, fLen, fLenA, fLenT, fList, fTuple, dCall0, dCallX, dCallT, WF.wp, lcStep, wipeD, lcOk, isOwn, isOwL, Lv.ch, Lv.sh, sc_n, sc_b, sc_i, sc_s, sc_l, sc_t, scD_ss, scD_ii, scD_bb, eqS_ss, eqS_ii, eqS_bb, isNo, okU, thn_rt, thn_bk, thn_ct, DEnds.loop, sCont, sBreak, fInt1, fMax2, fMin2, fIsi, fIsi2, dSetS, sParN, lRev, dDraw, dNames, dPartT, fSortS, fSortD, fRepr, fInD, fNotT, dTru, fIsB, tru, dSame, dCallK, fInA, dRevT, fRevT, dCount, dCatT, notP_V, notP_R, notP_l, dIdx, sRaise, fSlQ, cutD, true_and, sTry, bDrop, bAsg, bIf, dIsH, dWhat, sPop, sIns, sParO, dLists, lCatL, dCallN, dCallNN, sParD, fMaxI, fSortI, sSeg, dStrewn, sSegB, dRepZ, mDictT, mDict, mVar, dGetI, dGet1, dGet2, dCallM, sMap, dMinIx, dCallP, dCallPX, lkAt, sTupO, sTupM, sPar3N, bAsgP, dCallPK, dCallPP, fSortQ, sTupO, sTupM, sTupE, dIsNoX, sSegL, sa, sb]
  refine ⟨_, ia, ?_⟩
  refine lcGo_filter al (fun p => !decide (p.1 ∈ g.2) && inOne p.2 g.2) (fun p => .str p.1) (small hG.1) ?_ ?_
  · show PyData.list _ = _
    simp [ripeG]
  · rintro d p acc k' hx hd la q1 q2
    obtain ⟨l, id, sd, el, sl⟩ := fruit_of' hd
    refine gdSq2 id rfl (bnd_rd sl) ?_
    simp [initA, sRet, dB1, fAll, fAny, dVal, dLc, lLc, iSq, dRd, dVar, dFz, sSeq, sNext, sAsg, sOwn, sIf, sFor, sApp, sRetN, sDrop, sPar, sPar3, dC, dV, dOp, fI, fI0, fEq, fNe, fEqD, fNeD, fIn, dIx, dIxR, dTest, dNot, dAnd, dOr, dYes, dIfE, dAndV, dOrV, dNotV, dNeg, dNil, dCons, dConsR, dStar, dLst, dTup, lLst, lVar, lSl, lList, lCat, dL, dRep, gdName, gdNil, gdCons, gdSq, gdTup, bnd, iRg, iEn, iZp, zLv, dSl, dNoPart, dPart, fSlL, fSlT, fSlS, fLen, fLenA, fLenT, fList, fTuple, dCall0, dCallX, dCallT, WF.wp, lcStep, wipeD, lcOk, isOwn, isOwL, Lv.ch, Lv.sh, sc_n, sc_b, sc_i, sc_s, sc_l, sc_t, scD_ss, scD_ii, scD_bb, eqS_ss, eqS_ii, eqS_bb, isNo, okU, thn_rt, thn_bk, thn_ct, DEnds.loop, sCont, sBreak, fInt1, fMax2, fMin2, fIsi, fIsi2, dSetS, sParN, lRev, dDraw, dNames, dPartT, fSortS, fSortD, fRepr, fInD, fNotT, dTru, fIsB, tru, dSame, dCallK, fInA, dRevT, fRevT, dCount, dCatT, notP_V, notP_R, notP_l, dIdx, sRaise, fSlQ, cutD, true_and, sTry, bDrop, bAsg, bIf, dIsH, dWhat, sPop, sIns, sParO, dLists, lCatL, dCallN, dCallNN, sParD, fMaxI, fSortI, sSeg, dStrewn, sSegB, dRepZ, mDictT, mDict, mVar, dGetI, dGet1, dGet2, dCallM, sMap, dMinIx, dCallP, dCallPX, lkAt, sTupO, sTupM, sPar3N, bAsgP, dCallPK, dCallPP, fSortQ, sTupO, sTupM, sTupE, dIsNoX, sSegL, sa, sb]
    refine ⟨_, ib, sc_strsM _, ?_⟩
    rw [inD_strs]
    by_cases hin : p.1 ∈ g.2
    · exact .inl ⟨by simp [hin], q2 (by simp [hin])⟩
    · refine .inr ⟨by simp [hin], (p.2, g.2), ⟨_, _, rfl, el, eb, (hG.2 p hx).1, (hG.2 p hx).2⟩, ?_, fun _ _ z => z⟩
      rintro _ _ rfl
      by_cases h1 : inOne p.2 g.2 = true
      · exact .inr ⟨by rw [h1], la, q1 (by simp [hin, h1])⟩
      · exact .inl ⟨by simp [h1], q2 (by simp [hin, h1])⟩
end
section
variable {K : PySem.W.Frag} {E : XK}
instance {i : Nat} {t : TE} {w : TRd} [p : PuR K E t w] : PuE K E (tCall (sp__law_draw K) [] E0 (tCons (tVar i) (tCons t tNil))) (dDraw i w) where
  mono h := fun ⟨e, q⟩ => ⟨e, p.mono (fun _ _ _ ⟨m, a, b, c, d, q⟩ => ⟨m, a, b, c, d, fun r r0 r1 => h _ _ (q r r0 r1)⟩) q⟩
  run {F hd σ H δ Q} hE r := fun ⟨e, q⟩ => by
    obtain ⟨a, h1, h2⟩ := r.vars i _ e
    refine ⟨_, h1, un1 (t := t) hE r q fun l x δ1 v hd1 H1 k1 r1 d1 ⟨m, e1, b, c, d, q⟩ => ?_⟩
    subst e1
    have := d1.int r1.bs
    subst this
    refine ⟨a, m, δ1.n, rfl, r1.tape a h2, b, c, d, fun r0 H' g0 g1 T' x' => ?_⟩
    obtain ⟨k2, r2⟩ := r1.taped h2 (fun b o z e => by rw [x' b z]; exact e) T'
    exact q r0 g0 g1 _ _ _ (k1.trans k2) r2 (.int _)
instance {i : Nat} {t : TE} {w : TRd} [p : PuR K E t w] : PuE K E (tCall (sp__law_names K) [] E0 (tCons (tVar i) (tCons t tNil))) (dNames i w) where
  mono h := fun ⟨e, q⟩ => ⟨e, p.mono (fun _ _ _ ⟨m, a, b, c, q⟩ => ⟨m, a, b, c, fun zs h1 h2 h3 => h _ _ (q zs h1 h2 h3)⟩) q⟩
  run {F hd σ H δ Q} hE r := fun ⟨e, q⟩ => by
    obtain ⟨a, h1, h2⟩ := r.vars i _ e
    refine ⟨_, h1, un1 (t := t) hE r q fun l x δ1 v hd1 H1 k1 r1 d1 ⟨m, e1, b, c, q⟩ => ?_⟩
    subst e1
    have := d1.int r1.bs
    subst this
    refine ⟨a, m, δ1.n, rfl, r1.tape a h2, b, c, fun zs p H' l1 l2 l3 np T' x' hp => ?_⟩
    obtain ⟨k2, r2⟩ := r1.taped h2 x' T'
    exact q zs l1 l2 l3 _ _ _ (k1.trans k2) r2 (.lst (.inl (.inl (r1.seen2 np hp))) (dz_strs _))
instance {i : Nat} {ta tb : TE} {wa wb : TRd} [pa : PuR K E ta wa] [pb : PuR K E tb wb] : PuE K E (tCall (sp__law_part K) [] E0 (tCons (tVar i) (tCons ta (tCons tb tNil)))) (dPartT i wa wb) where
  mono h := fun ⟨e, q⟩ => ⟨e, pa.mono (fun _ _ _ => pb.mono fun _ _ _ ⟨zs, m, a, b, c, d, f, q⟩ => ⟨zs, m, a, b, c, d, f, fun ys rest h1 h2 => h _ _ (q ys rest h1 h2)⟩) q⟩
  run {F hd σ H δ Q} hE r := fun ⟨e, q⟩ => by
    obtain ⟨a, h1, h2⟩ := r.vars i _ e
    refine ⟨_, h1, bin2 (ta := ta) (tb := tb) hE r q fun l x m' y δ2 v u hd2 H2 k r2 d1 d2 ⟨zs, m, ix, ey, c, d, f, q⟩ => ?_⟩
    subst ey
    have := d2.int r2.bs
    subst this
    obtain ⟨b, vs, rfl, hs, ha⟩ := d1.seq r2.bs ix
    have ev := strs_of ha
    subst ev
    refine ⟨a, b, _, m, δ2.n, rfl, r2.tape a h2, c, hs.imp (fun h => nt_in.seq h.2) (fun h => Same.seqT nt_in h.2), by rw [List.length_map]; exact d, by rw [List.length_map]; exact f, fun ys rest p H' pm ly np T' x' hp => ?_⟩
    obtain ⟨k2, r3⟩ := r2.taped h2 x' T'
    obtain ⟨y, rs, rfl, rfl, pm2⟩ := perm_app pm
    exact q y rs pm2 (by rw [← ly, List.length_map]) _ _ _ (k.trans k2) r3 (.lst (.inl (.inl (r2.seen2 np hp))) (dz_strs _))
end
theorem sc__law_least : FnScope ["_law_lots", "_law_some", "_law_lot", "_law_one"] ["_law_lots"] (defScope s__law_least) := ⟨rfl, rfl, rfl, by decide +kernel, rfl, by decide +kernel, by decide +kernel⟩
section
variable {P : Program} {w : World} {K : PySem.W.Frag} {mg : Str → Option Value} {base : Heap}
theorem ok__law_least (T : Txt K mg) : FnOk P w K mg base CX0 3 T.f__law_least T.fd__law_least ["_law_lots"] (spF K [false] wf_least) := by
  refine T.F__law_least.ok sc__law_least (fun vs H Q E h => spF_len h) (fun cdv A outer s H vs Q E hr h => ?_)
  refine ⟨_, (pss_cons (ps_set (i := 1) sc__law_least.nd rfl (by first | exact Or.inl rfl | exact Or.inr rfl) (pe_callB (cr_sortTxE rfl hr.units) (by rfl) T.m_sorted (by decide +kernel) (pa_cons (pe_callTy (cr_setTx rfl hr.units) (by rfl) T.m_set (by decide +kernel) (pa_cons (pe_lc (own := [("_law_lot", 2)]) (g := (gName 2)) (tt := tYes) (te := (tCB (rTupZ K) (tCons (tCB (rSortedS K) (tCons (tVar 2) tNil)) tNil))) (by rfl) sc__law_least.nd (pi_any (pv 0)) (blkOk_by (own := [("_law_lot", 2)]) (N := ["_law_lots", "_law_some", "_law_lot", "_law_one"]) (sc := defScope s__law_least) (by decide +kernel)) (fun _ _ _ _ _ => (pg_name (i := 2) sc__law_least.nd rfl (by first | exact Or.inl rfl | exact Or.inr rfl))) (fun _ _ _ _ _ => pts_nil) (fun _ _ _ _ _ => (pe_callTy kk_tuple_of (by rfl) T.m_tuple (by decide +kernel) (pa_cons (pe_callB cr_sortedS (by rfl) T.m_sorted (by decide +kernel) (pa_cons (pv 2) pa_nil)) pa_nil)))) pa_nil)) pa_nil)))
      (pss_one (ps_ret (pe_lc (own := [("_law_lot", 2)]) (g := (gName 2)) (tt := (tNot (tB (tCB (rAny K) (tCons (tLc (iAny K (tVar 1)) (gName 3) tYes (tAndV (tOp (rNeD K) (tVar 3) (tVar 2)) (tCall (spF K [false, false] wf_in) [] E0 (tCons (tVar 3) (tCons (tVar 2) tNil)))) [3]) tNil))))) (te := (tVar 2)) (by rfl) sc__law_least.nd (pi_any (pv 1)) (blkOk_by (own := [("_law_lot", 2)]) (N := ["_law_lots", "_law_some", "_law_lot", "_law_one"]) (sc := defScope s__law_least) (by decide +kernel)) (fun _ _ _ _ _ => (pg_name (i := 2) sc__law_least.nd rfl (by first | exact Or.inl rfl | exact Or.inr rfl))) (fun _ _ _ _ _ => (pts_one (pt_not (pt_val (pe_callB (cr_any rfl) (by rfl) T.m_any (by decide +kernel) (pa_cons (pe_lc (own := [("_law_one", 3)]) (g := (gName 3)) (tt := tYes) (te := (tAndV (tOp (rNeD K) (tVar 3) (tVar 2)) (tCall (spF K [false, false] wf_in) [] E0 (tCons (tVar 3) (tCons (tVar 2) tNil))))) (by rfl) sc__law_least.nd (pi_any (pv 1)) (blkOk_by (own := [("_law_one", 3)]) (N := ["_law_lots", "_law_some", "_law_lot", "_law_one"]) (sc := { kind := .function, names := [(Str.ofString ".0", .local), (Str.ofString "_law_lot", .cell), (Str.ofString "any", .globalImplicit), (Str.ofString "_law_some", .cell)], isGenerator := false, isCoroutine := false }) (by decide +kernel)) (fun _ _ _ _ _ => (pg_name (i := 3) sc__law_least.nd rfl (by first | exact Or.inl rfl | exact Or.inr rfl))) (fun _ _ _ _ _ => pts_nil) (fun _ _ _ _ _ => (pe_and (pe_cmpR (op_neD hr.units) (pv 3) (pv 2) (nomark _)) (pe_one (pe_call (ok__law_within T) (hr.mono (by decide)) (by rfl) T.g__law_within T.F__law_within.kp T.b__law_within .nil pass0 (pa_cons (pv 3) (pa_cons (pv 2) pa_nil))))))) pa_nil)))))) (fun _ _ _ _ _ => (pv 2)))))), ?_⟩
  dsimp only [cxOf, Cx.nox, List.map]
  refine pu_fn h (fun (g : List (List Str)) ds hp => ?_)
  obtain ⟨rfl, hl, hz⟩ := hp
  simp [initA, sRet, dB1, fAll, fAny, dVal, dLc, lLc, iSq, dRd, dVar, dFz, sSeq, sNext, sAsg, sOwn, sIf, sFor, sApp, sRetN, sDrop, sPar, sPar3, dC, dV, dOp, fI, fI0, fEq, fNe, fEqD, fNeD, fIn, dIx, dIxR, dTest, dNot, dAnd, dOr, dYes, dIfE, dAndV, dOrV, dNotV, dNeg, dNil, dCons, dConsR, dStar, dLst, dTup, lLst, lVar, lSl, lList, lCat, dL, dRep, gdName, gdNil, gdCons, gdSq, gdTup, bnd, iRg, iEn, iZp, zLv, dSl, dNoPart, dPart, fSlL, fSlT, fSlS, fLen, fLenA, fLenT, fList, fTuple, dCall0, dCallX, dCallT, WF.wp, lcStep, wipeD, lcOk, isOwn, isOwL, Lv.ch, Lv.sh, sc_n, sc_b, sc_i, sc_s, sc_l, sc_t, scD_ss, scD_ii, scD_bb, eqS_ss, eqS_ii, eqS_bb, isNo, okU, thn_rt, thn_bk, thn_ct, DEnds.loop, sCont, sBreak, fInt1, fMax2, fMin2, fIsi, fIsi2, dSetS, sParN, lRev, dDraw, dNames, dPartT, fSortS, fSortD, fRepr, fInD, fNotT, dTru, fIsB, tru, dSame, dCallK, fInA, dRevT, fRevT, dCount, dCatT, notP_V, notP_R, notP_l, dIdx, sRaise, fSlQ, cutD, true_and, sTry, bDrop, bAsg, bIf, dIsH, dWhat, sPop, sIns, sParO, dLists, lCatL, dCallN, dCallNN, sParD, fMaxI, fSortI, sSeg, dStrewn, sSegB, dRepZ, mDictT, mDict, mVar, dGetI, dGet1, dGet2, dCallM, sMap, dMinIx, dCallP, dCallPX, lkAt, sTupO, sTupM, sPar3N, bAsgP, dCallPK, dCallPP, fSortQ, sTupO, sTupM, sTupE, dIsNoX, sSegL, thn_nx]
  refine ⟨_, .inl rfl, fun i acc m => m = 0 ∧ ∃ yss : List (List Str), acc = yss.map txD ∧ yss.length = i ∧ ∀ z ∈ yss, ∃ y ∈ g, z.Perm y, ⟨rfl, [], rfl, rfl, by simp⟩, fun i x acc m ex hI => ?_, fun acc m hI => ?_⟩
  · obtain ⟨rfl, yss, rfl, ly, hy⟩ := hI
    have il := (List.getElem?_eq_some_iff.mp ex).1
    rw [List.length_map] at il
    rw [List.getElem?_map] at ex
    obtain ⟨z, ez, rfl⟩ := Option.map_eq_some_iff.mp ex
    have zm := List.mem_of_getElem? ez
    simp [initA, sRet, dB1, fAll, fAny, dVal, dLc, lLc, iSq, dRd, dVar, dFz, sSeq, sNext, sAsg, sOwn, sIf, sFor, sApp, sRetN, sDrop, sPar, sPar3, dC, dV, dOp, fI, fI0, fEq, fNe, fEqD, fNeD, fIn, dIx, dIxR, dTest, dNot, dAnd, dOr, dYes, dIfE, dAndV, dOrV, dNotV, dNeg, dNil, dCons, dConsR, dStar, dLst, dTup, lLst, lVar, lSl, lList, lCat, dL, dRep, gdName, gdNil, gdCons, gdSq, gdTup, bnd, iRg, iEn, iZp, zLv, dSl, dNoPart, dPart, fSlL, fSlT, fSlS, fLen, fLenA, fLenT, fList, fTuple, dCall0, dCallX, dCallT, WF.wp, lcStep, wipeD, lcOk, isOwn, isOwL, Lv.ch, Lv.sh, sc_n, sc_b, sc_i, sc_s, sc_l, sc_t, scD_ss, scD_ii, scD_bb, eqS_ss, eqS_ii, eqS_bb, isNo, okU, thn_rt, thn_bk, thn_ct, DEnds.loop, sCont, sBreak, fInt1, fMax2, fMin2, fIsi, fIsi2, dSetS, sParN, lRev, dDraw, dNames, dPartT, fSortS, fSortD, fRepr, fInD, fNotT, dTru, fIsB, tru, dSame, dCallK, fInA, dRevT, fRevT, dCount, dCatT, notP_V, notP_R, notP_l, dIdx, sRaise, fSlQ, cutD, true_and, sTry, bDrop, bAsg, bIf, dIsH, dWhat, sPop, sIns, sParO, dLists, lCatL, dCallN, dCallNN, sParD, fMaxI, fSortI, sSeg, dStrewn, sSegB, dRepZ, mDictT, mDict, mVar, dGetI, dGet1, dGet2, dCallM, sMap, dMinIx, dCallP, dCallPX, lkAt, sTupO, sTupM, sPar3N, bAsgP, dCallPK, dCallPP, fSortQ, sTupO, sTupM, sTupE, dIsNoX, sSegL]
    refine ⟨z, rfl, by have := (hz z zm).1; omega, fun ys pm _ => ⟨_, .inl rfl, by rw [sizeLine_eq]; omega, yss ++ [ys], by simp, by simp [ly], fun u hu => ?_⟩⟩
    rcases List.mem_append.mp hu with hu | hu
    · exact hy u hu
    · rw [List.mem_singleton.mp hu]; exact ⟨z, zm, pm⟩
  · obtain ⟨rfl, yss, rfl, ly, hy⟩ := hI
    rw [List.length_map] at ly
    refine ⟨yss, rfl, by omega, fun M nd mem lM _ _ => ?_⟩
    refine ⟨_, .inl rfl, lcGo_filter (al_map _ _) (fun z => !hasIn M z) txD (small (m := 64) (by omega)) ?_ ?_⟩
    · refine ⟨M.filter fun z => !hasIn M z, rfl, nd.filter _, Nat.lt_of_le_of_lt (List.length_filter_le _ _) lM, fun z hz' => ?_⟩
      exact hy z ((mem z).mp (List.mem_filter.mp hz').1)
    · rintro _ z acc k' zM rfl la q1 q2
      simp [initA, sRet, dB1, fAll, fAny, dVal, dLc, lLc, iSq, dRd, dVar, dFz, sSeq, sNext, sAsg, sOwn, sIf, sFor, sApp, sRetN, sDrop, sPar, sPar3, dC, dV, dOp, fI, fI0, fEq, fNe, fEqD, fNeD, fIn, dIx, dIxR, dTest, dNot, dAnd, dOr, dYes, dIfE, dAndV, dOrV, dNotV, dNeg, dNil, dCons, dConsR, dStar, dLst, dTup, lLst, lVar, lSl, lList, lCat, dL, dRep, gdName, gdNil, gdCons, gdSq, gdTup, bnd, iRg, iEn, iZp, zLv, dSl, dNoPart, dPart, fSlL, fSlT, fSlS, fLen, fLenA, fLenT, fList, fTuple, dCall0, dCallX, dCallT, WF.wp, lcStep, wipeD, lcOk, isOwn, isOwL, Lv.ch, Lv.sh, sc_n, sc_b, sc_i, sc_s, sc_l, sc_t, scD_ss, scD_ii, scD_bb, eqS_ss, eqS_ii, eqS_bb, isNo, okU, thn_rt, thn_bk, thn_ct, DEnds.loop, sCont, sBreak, fInt1, fMax2, fMin2, fIsi, fIsi2, dSetS, sParN, lRev, dDraw, dNames, dPartT, fSortS, fSortD, fRepr, fInD, fNotT, dTru, fIsB, tru, dSame, dCallK, fInA, dRevT, fRevT, dCount, dCatT, notP_V, notP_R, notP_l, dIdx, sRaise, fSlQ, cutD, true_and, sTry, bDrop, bAsg, bIf, dIsH, dWhat, sPop, sIns, sParO, dLists, lCatL, dCallN, dCallNN, sParD, fMaxI, fSortI, sSeg, dStrewn, sSegB, dRepZ, mDictT, mDict, mVar, dGetI, dGet1, dGet2, dCallM, sMap, dMinIx, dCallP, dCallPX, lkAt, sTupO, sTupM, sPar3N, bAsgP, dCallPK, dCallPP, fSortQ, sTupO, sTupM, sTupE, dIsNoX, sSegL]
      have okM : ∀ u ∈ M, okT u ∧ u.length ≤ 1000 := fun u hu => by
        obtain ⟨y, hy1, pm⟩ := hy u ((mem u).mp hu)
        have := hz y hy1
        exact ⟨fun x hx => this.2 x (pm.mem_iff.mp hx), by rw [pm.length_eq]; omega⟩
      refine ⟨_, .inl rfl, lcGo_map (al_map _ _) (fun u => .bool (!decide (u = z) && inAll u z)) (small (m := 64) (by omega)) ?_ ?_⟩
      · refine ⟨M.map fun u => !decide (u = z) && inAll u z, by simp, ?_⟩
        have e : (true ∈ M.map fun u => !decide (u = z) && inAll u z) ↔ hasIn M z = true := by
          unfold hasIn
          rw [List.any_eq_true]
          simp
        by_cases c : hasIn M z = true
        · rw [if_pos (e.mpr c)]; exact q2 (by rw [c]; rfl)
        · rw [if_neg (fun h => c (e.mp h))]; exact ⟨la, q1 (by simp [c])⟩
      · rintro _ u acc2 k2 uM rfl la2 q3
        simp [initA, sRet, dB1, fAll, fAny, dVal, dLc, lLc, iSq, dRd, dVar, dFz, sSeq, sNext, sAsg, sOwn, sIf, sFor, sApp, sRetN, sDrop, sPar, sPar3, dC, dV, dOp, fI, fI0, fEq, fNe, fEqD, fNeD, fIn, dIx, dIxR, dTest, dNot, dAnd, dOr, dYes, dIfE, dAndV, dOrV, dNotV, dNeg, dNil, dCons, dConsR, dStar, dLst, dTup, lLst, lVar, lSl, lList, lCat, dL, dRep, gdName, gdNil, gdCons, gdSq, gdTup, bnd, iRg, iEn, iZp, zLv, dSl, dNoPart, dPart, fSlL, fSlT, fSlS, fLen, fLenA, fLenT, fList, fTuple, dCall0, dCallX, dCallT, WF.wp, lcStep, wipeD, lcOk, isOwn, isOwL, Lv.ch, Lv.sh, sc_n, sc_b, sc_i, sc_s, sc_l, sc_t, scD_ss, scD_ii, scD_bb, eqS_ss, eqS_ii, eqS_bb, isNo, okU, thn_rt, thn_bk, thn_ct, DEnds.loop, sCont, sBreak, fInt1, fMax2, fMin2, fIsi, fIsi2, dSetS, sParN, lRev, dDraw, dNames, dPartT, fSortS, fSortD, fRepr, fInD, fNotT, dTru, fIsB, tru, dSame, dCallK, fInA, dRevT, fRevT, dCount, dCatT, notP_V, notP_R, notP_l, dIdx, sRaise, fSlQ, cutD, true_and, sTry, bDrop, bAsg, bIf, dIsH, dWhat, sPop, sIns, sParO, dLists, lCatL, dCallN, dCallNN, sParD, fMaxI, fSortI, sSeg, dStrewn, sSegB, dRepZ, mDictT, mDict, mVar, dGetI, dGet1, dGet2, dCallM, sMap, dMinIx, dCallP, dCallPX, lkAt, sTupO, sTupM, sPar3N, bAsgP, dCallPK, dCallPP, fSortQ, sTupO, sTupM, sTupE, dIsNoX, sSegL]
        refine ⟨shaped_tx (okM u uM).1, shaped_tx (okM z zM).1, ?_⟩
        rw [eqv_tx]
        by_cases c : u = z
        · refine .inl ⟨by simp [c], la2, ?_⟩
          simpa [c] using q3
        · refine .inr ⟨by simp [c], (u, z), ⟨_, _, rfl, flat_tx u, flat_tx z, (okM u uM).2⟩, ?_, fun _ _ z => z⟩
          rintro _ _ rfl
          exact ⟨la2, by simpa [c] using q3⟩
end
theorem sc__law_orchard : FnScope ["_law_tape_here", "_law_names_here", "_law_size", "_law_queue", "_law_found", "_law_k", "_law_fruits_own", "_law_turn_here", "_law_some", "_law_lots", "_law_other"] ["_law_tape_here", "_law_names_here", "_law_size"] (defScope s__law_orchard) := ⟨rfl, rfl, rfl, by decide +kernel, rfl, by decide +kernel, by decide +kernel⟩
section
variable {P : Program} {w : World} {K : PySem.W.Frag} {mg : Str → Option Value} {base : Heap}
def Iorch (g : List Str × Nat × Nat) (ys : List Str) (i : Nat) (δ : DS) : Prop := ∃ (fs : Gr) (a5 a6 a7 a8 a9 : AV) (n : Nat), δ = ⟨[.tape, .rd (.list (g.1.map .str)), .dat (.int (g.2.1 : Nat)), .dat (.list (ys.map .str)), .own (fs.map fruitD), a5, a6, a7, a8, a9, .no], n⟩ ∧ fs.map (·.1) = ys.take i ∧
  (∀ p ∈ fs, p.2.length < 64 ∧ ∀ z ∈ p.2, z.length ≤ 26 ∧ z.Nodup ∧ ∀ x ∈ z, x ∈ g.1 ∧ x ≠ p.1) ∧ n ≤ g.2.2 + 26 + 100 * i
def Iin (g : List Str × Nat × Nat) (ys : List Str) (fs : Gr) (i : Nat) (f : Str) (so : List Str) (a8 : AV) (m : Nat) (δ : DS) : Prop := ∃ (ll : List (List Str)) (b7 : AV) (n : Nat), δ = ⟨[.tape, .rd (.list (g.1.map .str)), .dat (.int (g.2.1 : Nat)), .dat (.list (ys.map .str)), .own (fs.map fruitD), .dat (.int (i : Nat)), .dat (.str f), b7, a8, .own (ll.map liD), .no], n⟩ ∧ ll.length = m ∧
  (∀ z ∈ ll, z.Nodup ∧ z.length ≤ 26 ∧ ∀ x ∈ z, x ∈ so) ∧ n ≤ g.2.2 + 28 + 100 * i + 12 * m
theorem ok__law_orchard (T : Txt K mg) : FnOk P w K mg base CX0 4 T.f__law_orchard T.fd__law_orchard ["_law_tape_here", "_law_names_here", "_law_size"] (spT K [false, false] wf_orchard) := by
  refine T.F__law_orchard.ok sc__law_orchard (fun vs H Q E h => spT_len h) (fun cdv A outer s H vs Q E hr h => ?_)
  refine ⟨_, (pss_cons (ps_par (by rfl) sc__law_orchard.nd (i := 3) (j := 4) rfl rfl (by decide) rfl rfl (pa_cons (pe_call (ok__law_part T) (hr.mono (by decide)) (by rfl) T.g__law_part T.F__law_part.kp T.b__law_part .nil pass0 (pa_cons (pv 0) (pa_cons (pv 1) (pa_cons (pe_callB kk_len (by rfl) T.m_len (by decide +kernel) (pa_cons (pv 1) pa_nil)) pa_nil)))) (pa_cons (pe_lst pa_nil) pa_nil)) (by rfl))
      (pss_cons (ps_for PassesOwn.never rfl (pi_enum (by rfl) T.m_enumerate (pa_cons (pv 3) pa_nil)) (pg_tup (n := 2) rfl (pgs_cons (pg_name (i := 5) sc__law_orchard.nd rfl (by first | exact Or.inl rfl | exact Or.inr rfl)) (pgs_cons (pg_name (i := 6) sc__law_orchard.nd rfl (by first | exact Or.inl rfl | exact Or.inr rfl)) pgs_nil)))
      (pss_cons (ps_par (by rfl) sc__law_orchard.nd (i := 8) (j := 9) rfl rfl (by decide) rfl rfl (pa_cons (pe_slice sl_list (pv 3) po_none (po_some (pv 5))) (pa_cons (pe_lst pa_nil) pa_nil)) (by rfl))
      (pss_cons (ps_if (pt_cmpR op_eq (pe_call (ok__law_draw T) (hr.mono (by decide)) (by rfl) T.g__law_draw T.F__law_draw.kp T.b__law_draw .nil pass0 (pa_cons (pv 0) (pa_cons pe_int pa_nil))) pe_int (nomark _)) (pss_one (ps_setLc (i := 8) (own := [("_law_other", 10)]) (g := (gName 10)) (tt := (tTest (tOp rNe (tVar 10) (tVar 6)))) (te := (tVar 10)) (by rfl) sc__law_orchard.nd rfl rfl (sw_true rfl rfl rfl (by decide +kernel)) (pi_any (pv 3)) (blkOk_by (own := [("_law_other", 10)]) (N := ["_law_tape_here", "_law_names_here", "_law_size", "_law_queue", "_law_found", "_law_k", "_law_fruits_own", "_law_turn_here", "_law_some", "_law_lots", "_law_other"]) (sc := defScope s__law_orchard) (by decide +kernel)) (fun _ _ _ _ _ => (pg_name (i := 10) sc__law_orchard.nd rfl (by first | exact Or.inl rfl | exact Or.inr rfl))) (fun _ _ _ _ _ => (pts_one (pt_cmpR op_ne (pv 10) (pv 6) (nomark _)))) (fun _ _ _ _ _ => (pv 10)))) pss_nil)
      (pss_cons (ps_for PassesOwn.never rfl (pi_range1 (by rfl) T.m_range (pa_cons (pe_ix ix_seq (pe_lst (pa_cons pe_int (pa_cons pe_int (pa_cons pe_int (pa_cons pe_int (pa_cons pe_int (pa_cons pe_int (pa_cons pe_int (pa_cons pe_int pa_nil))))))))) (pe_call (ok__law_draw T) (hr.mono (by decide)) (by rfl) T.g__law_draw T.F__law_draw.kp T.b__law_draw .nil pass0 (pa_cons (pv 0) (pa_cons pe_int pa_nil))) (fun _ _ => rfl)) pa_nil)) (pg_name (i := 7) sc__law_orchard.nd rfl (by first | exact Or.inl rfl | exact Or.inr rfl))
      (pss_one (ps_expr (pe_bm PySem.F.plainAttrs_list PySem.F.slot_list_append PySem.F.type_list_append mt_append (pv 9) (pa_cons (pe_call (ok__law_part T) (hr.mono (by decide)) (by rfl) T.g__law_part T.F__law_part.kp T.b__law_part .nil pass0 (pa_cons (pv 0) (pa_cons (pv 8) (pa_cons (pe_call (ok__law_draw T) (hr.mono (by decide)) (by rfl) T.g__law_draw T.F__law_draw.kp T.b__law_draw .nil pass0 (pa_cons (pv 0) (pa_cons (pe_op op_add (pe_callB (kk_min2 rfl) (by rfl) T.m_min (by decide +kernel) (pa_cons (pv 2) (pa_cons (pe_callB kk_len (by rfl) T.m_len (by decide +kernel) (pa_cons (pv 8) pa_nil)) pa_nil))) pe_int) pa_nil))) pa_nil)))) pa_nil)))))
      (pss_one (ps_expr (pe_bm PySem.F.plainAttrs_list PySem.F.slot_list_append PySem.F.type_list_append mt_append (pv 4) (pa_cons (pe_tupZ (pa_cons (pv 6) (pa_cons (pe_callTy kk_tuple_of (by rfl) T.m_tuple (by decide +kernel) (pa_cons (pe_call (ok__law_least T) (hr.mono (by decide)) (by rfl) T.g__law_least T.F__law_least.kp T.b__law_least .nil pass0 (pa_cons (pv 9) pa_nil)) pa_nil)) pa_nil))) pa_nil))))))))
      (pss_one (ps_ret (pe_callTy kk_tuple_of (by rfl) T.m_tuple (by decide +kernel) (pa_cons (pe_callB (cr_sortD hr.units) (by rfl) T.m_sorted (by decide +kernel) (pa_cons (pv 4) pa_nil)) pa_nil)))))), ?_⟩
  dsimp only [cxOf, Cx.nox, List.map]
  refine pu_fnT h (fun (g : List Str × Nat × Nat) ds n hp => ?_)
  obtain ⟨rfl, rfl, nd, nm, hl, hk, hn⟩ := hp
  simp [initA, sRet, dB1, fAll, fAny, dVal, dLc, lLc, iSq, dRd, dVar, dFz, sSeq, sNext, sAsg, sOwn, sIf, sFor, sApp, sRetN, sDrop, sPar, sPar3, dC, dV, dOp, fI, fI0, fEq, fNe, fEqD, fNeD, fIn, dIx, dIxR, dTest, dNot, dAnd, dOr, dYes, dIfE, dAndV, dOrV, dNotV, dNeg, dNil, dCons, dConsR, dStar, dLst, dTup, lLst, lVar, lSl, lList, lCat, dL, dRep, gdName, gdNil, gdCons, gdSq, gdTup, bnd, iRg, iEn, iZp, zLv, dSl, dNoPart, dPart, fSlL, fSlT, fSlS, fLen, fLenA, fLenT, fList, fTuple, dCall0, dCallX, dCallT, WF.wp, lcStep, wipeD, lcOk, isOwn, isOwL, Lv.ch, Lv.sh, sc_n, sc_b, sc_i, sc_s, sc_l, sc_t, scD_ss, scD_ii, scD_bb, eqS_ss, eqS_ii, eqS_bb, isNo, okU, thn_rt, thn_bk, thn_ct, DEnds.loop, sCont, sBreak, fInt1, fMax2, fMin2, fIsi, fIsi2, dSetS, sParN, lRev, dDraw, dNames, dPartT, fSortS, fSortD, fRepr, fInD, fNotT, dTru, fIsB, tru, dSame, dCallK, fInA, dRevT, fRevT, dCount, dCatT, notP_V, notP_R, notP_l, dIdx, sRaise, fSlQ, cutD, true_and, sTry, bDrop, bAsg, bIf, dIsH, dWhat, sPop, sIns, sParO, dLists, lCatL, dCallN, dCallNN, sParD, fMaxI, fSortI, sSeg, dStrewn, sSegB, dRepZ, mDictT, mDict, mVar, dGetI, dGet1, dGet2, dCallM, sMap, dMinIx, dCallP, dCallPX, lkAt, sTupO, sTupM, sPar3N, bAsgP, dCallPK, dCallPP, fSortQ, sTupO, sTupM, sTupE, dIsNoX, sSegL]
  refine ⟨_, .inl rfl, g.1, .inl rfl, g.1.length, by simp, by omega, by omega, Nat.le_refl _, fun ys rest pm ly => ?_⟩
  have er : rest = [] := by
    have := pm.length_eq
    rw [List.length_append] at this
    exact List.length_eq_zero_iff.mp (by omega)
  subst er
  rw [List.append_nil] at pm
  have ndy : ys.Nodup := pm.nodup_iff.mpr nd
  have ly' : ys.length = g.1.length := ly
  rw [thn_nx]
  refine sSeq_rule (Iorch g ys ys.length) (fun B hB _ _ _ => ?_) ?_
  · simp [initA, sRet, dB1, fAll, fAny, dVal, dLc, lLc, iSq, dRd, dVar, dFz, sSeq, sNext, sAsg, sOwn, sIf, sFor, sApp, sRetN, sDrop, sPar, sPar3, dC, dV, dOp, fI, fI0, fEq, fNe, fEqD, fNeD, fIn, dIx, dIxR, dTest, dNot, dAnd, dOr, dYes, dIfE, dAndV, dOrV, dNotV, dNeg, dNil, dCons, dConsR, dStar, dLst, dTup, lLst, lVar, lSl, lList, lCat, dL, dRep, gdName, gdNil, gdCons, gdSq, gdTup, bnd, iRg, iEn, iZp, zLv, dSl, dNoPart, dPart, fSlL, fSlT, fSlS, fLen, fLenA, fLenT, fList, fTuple, dCall0, dCallX, dCallT, WF.wp, lcStep, wipeD, lcOk, isOwn, isOwL, Lv.ch, Lv.sh, sc_n, sc_b, sc_i, sc_s, sc_l, sc_t, scD_ss, scD_ii, scD_bb, eqS_ss, eqS_ii, eqS_bb, isNo, okU, thn_rt, thn_bk, thn_ct, DEnds.loop, sCont, sBreak, fInt1, fMax2, fMin2, fIsi, fIsi2, dSetS, sParN, lRev, dDraw, dNames, dPartT, fSortS, fSortD, fRepr, fInD, fNotT, dTru, fIsB, tru, dSame, dCallK, fInA, dRevT, fRevT, dCount, dCatT, notP_V, notP_R, notP_l, dIdx, sRaise, fSlQ, cutD, true_and, sTry, bDrop, bAsg, bIf, dIsH, dWhat, sPop, sIns, sParO, dLists, lCatL, dCallN, dCallNN, sParD, fMaxI, fSortI, sSeg, dStrewn, sSegB, dRepZ, mDictT, mDict, mVar, dGetI, dGet1, dGet2, dCallM, sMap, dMinIx, dCallP, dCallPX, lkAt, sTupO, sTupM, sPar3N, bAsgP, dCallPK, dCallPP, fSortQ, sTupO, sTupM, sTupE, dIsNoX, sSegL]
    refine ⟨Iorch g ys, ⟨[], _, _, _, _, _, _, rfl, rfl, by simp, by omega⟩, fun i x δ' ex hI => ?_, fun δ' hI => ?_⟩
    · obtain ⟨d, e1, rfl⟩ := enD_inv ex
      obtain ⟨f, e2, rfl⟩ := strD_inv e1
      obtain ⟨fs, a5, a6, a7, a8, a9, n, rfl, efs, hfs, hn'⟩ := hI
      have il := (List.getElem?_eq_some_iff.mp e2).1
      refine gdTup2 rfl rfl ?_
      refine sSeq_rule (fun δ => ∃ n', δ = ⟨[.tape, .rd (.list (g.1.map .str)), .dat (.int (g.2.1 : Nat)), .dat (.list (ys.map .str)), .own (fs.map fruitD), .dat (.int (i : Nat)), .dat (.str f), a7, .dat (.list ((ys.take i).map .str)), .own [], .no], n'⟩ ∧ n' ≤ g.2.2 + 26 + 100 * i) (fun B hB _ _ _ => ?_) ?_
      · simp [initA, sRet, dB1, fAll, fAny, dVal, dLc, lLc, iSq, dRd, dVar, dFz, sSeq, sNext, sAsg, sOwn, sIf, sFor, sApp, sRetN, sDrop, sPar, sPar3, dC, dV, dOp, fI, fI0, fEq, fNe, fEqD, fNeD, fIn, dIx, dIxR, dTest, dNot, dAnd, dOr, dYes, dIfE, dAndV, dOrV, dNotV, dNeg, dNil, dCons, dConsR, dStar, dLst, dTup, lLst, lVar, lSl, lList, lCat, dL, dRep, gdName, gdNil, gdCons, gdSq, gdTup, bnd, iRg, iEn, iZp, zLv, dSl, dNoPart, dPart, fSlL, fSlT, fSlS, fLen, fLenA, fLenT, fList, fTuple, dCall0, dCallX, dCallT, WF.wp, lcStep, wipeD, lcOk, isOwn, isOwL, Lv.ch, Lv.sh, sc_n, sc_b, sc_i, sc_s, sc_l, sc_t, scD_ss, scD_ii, scD_bb, eqS_ss, eqS_ii, eqS_bb, isNo, okU, thn_rt, thn_bk, thn_ct, DEnds.loop, sCont, sBreak, fInt1, fMax2, fMin2, fIsi, fIsi2, dSetS, sParN, lRev, dDraw, dNames, dPartT, fSortS, fSortD, fRepr, fInD, fNotT, dTru, fIsB, tru, dSame, dCallK, fInA, dRevT, fRevT, dCount, dCatT, notP_V, notP_R, notP_l, dIdx, sRaise, fSlQ, cutD, true_and, sTry, bDrop, bAsg, bIf, dIsH, dWhat, sPop, sIns, sParO, dLists, lCatL, dCallN, dCallNN, sParD, fMaxI, fSortI, sSeg, dStrewn, sSegB, dRepZ, mDictT, mDict, mVar, dGetI, dGet1, dGet2, dCallM, sMap, dMinIx, dCallP, dCallPX, lkAt, sTupO, sTupM, sPar3N, bAsgP, dCallPK, dCallPP, fSortQ, sTupO, sTupM, sTupE, dIsNoX, sSegL]
        rw [cutG_to, ← List.map_take]
        exact hB _ ⟨n, rfl, hn'⟩
      · rintro _ ⟨n1, rfl, hn1⟩
        have fm : f ∈ ys := List.mem_of_getElem? e2
        have fnot : f ∉ ys.take i := fun h => by
          obtain ⟨j, hj⟩ := List.getElem?_of_mem h
          have jl := (List.getElem?_eq_some_iff.mp hj).1
          rw [List.length_take] at jl
          rw [List.getElem?_take_of_lt (by omega)] at hj
          have := (List.getElem?_inj (by omega) ndy).mp (hj.trans e2.symm)
          omega
        refine sSeq_rule (fun δ => ∃ (so : List Str) (a8 : AV) (n' : Nat), δ = ⟨[.tape, .rd (.list (g.1.map .str)), .dat (.int (g.2.1 : Nat)), .dat (.list (ys.map .str)), .own (fs.map fruitD), .dat (.int (i : Nat)), .dat (.str f), a7, a8, .own [], .no], n'⟩ ∧ (a8 = .dat (.list (so.map .str)) ∨ a8 = .own (so.map .str)) ∧ so.Nodup ∧ (∀ x ∈ so, x ∈ ys ∧ x ≠ f) ∧ so.length ≤ 26 ∧ n' ≤ g.2.2 + 27 + 100 * i) (fun B hB _ _ _ => ?_) ?_
        · simp [initA, sRet, dB1, fAll, fAny, dVal, dLc, lLc, iSq, dRd, dVar, dFz, sSeq, sNext, sAsg, sOwn, sIf, sFor, sApp, sRetN, sDrop, sPar, sPar3, dC, dV, dOp, fI, fI0, fEq, fNe, fEqD, fNeD, fIn, dIx, dIxR, dTest, dNot, dAnd, dOr, dYes, dIfE, dAndV, dOrV, dNotV, dNeg, dNil, dCons, dConsR, dStar, dLst, dTup, lLst, lVar, lSl, lList, lCat, dL, dRep, gdName, gdNil, gdCons, gdSq, gdTup, bnd, iRg, iEn, iZp, zLv, dSl, dNoPart, dPart, fSlL, fSlT, fSlS, fLen, fLenA, fLenT, fList, fTuple, dCall0, dCallX, dCallT, WF.wp, lcStep, wipeD, lcOk, isOwn, isOwL, Lv.ch, Lv.sh, sc_n, sc_b, sc_i, sc_s, sc_l, sc_t, scD_ss, scD_ii, scD_bb, eqS_ss, eqS_ii, eqS_bb, isNo, okU, thn_rt, thn_bk, thn_ct, DEnds.loop, sCont, sBreak, fInt1, fMax2, fMin2, fIsi, fIsi2, dSetS, sParN, lRev, dDraw, dNames, dPartT, fSortS, fSortD, fRepr, fInD, fNotT, dTru, fIsB, tru, dSame, dCallK, fInA, dRevT, fRevT, dCount, dCatT, notP_V, notP_R, notP_l, dIdx, sRaise, fSlQ, cutD, true_and, sTry, bDrop, bAsg, bIf, dIsH, dWhat, sPop, sIns, sParO, dLists, lCatL, dCallN, dCallNN, sParD, fMaxI, fSortI, sSeg, dStrewn, sSegB, dRepZ, mDictT, mDict, mVar, dGetI, dGet1, dGet2, dCallM, sMap, dMinIx, dCallP, dCallPX, lkAt, sTupO, sTupM, sPar3N, bAsgP, dCallPK, dCallPP, fSortQ, sTupO, sTupM, sTupE, dIsNoX, sSegL]
          refine ⟨by omega, fun r r0 r1 => ?_⟩
          have tk : (ys.take i).Nodup ∧ (∀ x ∈ ys.take i, x ∈ ys ∧ x ≠ f) ∧ (ys.take i).length ≤ 26 := ⟨ndy.sublist (List.take_sublist _ _), fun x hx => ⟨List.mem_of_mem_take hx, fun e => fnot (e ▸ hx)⟩, by rw [List.length_take]; omega⟩
          by_cases c : r = 0
          · rw [if_pos c]
            refine ⟨_, .inl rfl, lcGo_filter (al_map _ _) (fun z => !decide (z = f)) PyData.str (small (m := 26) (by omega)) ?_ ?_⟩
            · exact hB _ ⟨ys.filter fun z => !decide (z = f), _, _, rfl, .inr rfl, ndy.filter _, fun x hx => by simpa using List.mem_filter.mp hx, Nat.le_trans (List.length_filter_le _ _) (by omega), by omega⟩
            · rintro _ z acc k' zm rfl la q1 q2
              simp [initA, sRet, dB1, fAll, fAny, dVal, dLc, lLc, iSq, dRd, dVar, dFz, sSeq, sNext, sAsg, sOwn, sIf, sFor, sApp, sRetN, sDrop, sPar, sPar3, dC, dV, dOp, fI, fI0, fEq, fNe, fEqD, fNeD, fIn, dIx, dIxR, dTest, dNot, dAnd, dOr, dYes, dIfE, dAndV, dOrV, dNotV, dNeg, dNil, dCons, dConsR, dStar, dLst, dTup, lLst, lVar, lSl, lList, lCat, dL, dRep, gdName, gdNil, gdCons, gdSq, gdTup, bnd, iRg, iEn, iZp, zLv, dSl, dNoPart, dPart, fSlL, fSlT, fSlS, fLen, fLenA, fLenT, fList, fTuple, dCall0, dCallX, dCallT, WF.wp, lcStep, wipeD, lcOk, isOwn, isOwL, Lv.ch, Lv.sh, sc_n, sc_b, sc_i, sc_s, sc_l, sc_t, scD_ss, scD_ii, scD_bb, eqS_ss, eqS_ii, eqS_bb, isNo, okU, thn_rt, thn_bk, thn_ct, DEnds.loop, sCont, sBreak, fInt1, fMax2, fMin2, fIsi, fIsi2, dSetS, sParN, lRev, dDraw, dNames, dPartT, fSortS, fSortD, fRepr, fInD, fNotT, dTru, fIsB, tru, dSame, dCallK, fInA, dRevT, fRevT, dCount, dCatT, notP_V, notP_R, notP_l, dIdx, sRaise, fSlQ, cutD, true_and, sTry, bDrop, bAsg, bIf, dIsH, dWhat, sPop, sIns, sParO, dLists, lCatL, dCallN, dCallNN, sParD, fMaxI, fSortI, sSeg, dStrewn, sSegB, dRepZ, mDictT, mDict, mVar, dGetI, dGet1, dGet2, dCallM, sMap, dMinIx, dCallP, dCallPX, lkAt, sTupO, sTupM, sPar3N, bAsgP, dCallPK, dCallPP, fSortQ, sTupO, sTupM, sTupE, dIsNoX, sSegL]
              by_cases cz : z = f
              · exact .inl ⟨cz, q2 (by simp [cz])⟩
              · exact .inr ⟨cz, la, q1 (by simp [cz])⟩
          · rw [if_neg c]
            exact hB _ ⟨ys.take i, _, _, rfl, .inl (by rw [List.map_take]), tk.1, tk.2.1, tk.2.2, by omega⟩
        · rintro _ ⟨so, a8, n2, rfl, h8, nds, hso, lso, hn2⟩
          refine sSeq_rule (fun δ => ∃ (ll : List (List Str)) (b7 b8 : AV) (n' : Nat), δ = ⟨[.tape, .rd (.list (g.1.map .str)), .dat (.int (g.2.1 : Nat)), .dat (.list (ys.map .str)), .own (fs.map fruitD), .dat (.int (i : Nat)), .dat (.str f), b7, b8, .own (ll.map liD), .no], n'⟩ ∧ ll.length ≤ 4 ∧ (∀ z ∈ ll, z.Nodup ∧ z.length ≤ 26 ∧ ∀ x ∈ z, x ∈ so) ∧ n' ≤ g.2.2 + 100 + 100 * i) (fun B hB _ _ _ => ?_) ?_
          · simp [initA, sRet, dB1, fAll, fAny, dVal, dLc, lLc, iSq, dRd, dVar, dFz, sSeq, sNext, sAsg, sOwn, sIf, sFor, sApp, sRetN, sDrop, sPar, sPar3, dC, dV, dOp, fI, fI0, fEq, fNe, fEqD, fNeD, fIn, dIx, dIxR, dTest, dNot, dAnd, dOr, dYes, dIfE, dAndV, dOrV, dNotV, dNeg, dNil, dCons, dConsR, dStar, dLst, dTup, lLst, lVar, lSl, lList, lCat, dL, dRep, gdName, gdNil, gdCons, gdSq, gdTup, bnd, iRg, iEn, iZp, zLv, dSl, dNoPart, dPart, fSlL, fSlT, fSlS, fLen, fLenA, fLenT, fList, fTuple, dCall0, dCallX, dCallT, WF.wp, lcStep, wipeD, lcOk, isOwn, isOwL, Lv.ch, Lv.sh, sc_n, sc_b, sc_i, sc_s, sc_l, sc_t, scD_ss, scD_ii, scD_bb, eqS_ss, eqS_ii, eqS_bb, isNo, okU, thn_rt, thn_bk, thn_ct, DEnds.loop, sCont, sBreak, fInt1, fMax2, fMin2, fIsi, fIsi2, dSetS, sParN, lRev, dDraw, dNames, dPartT, fSortS, fSortD, fRepr, fInD, fNotT, dTru, fIsB, tru, dSame, dCallK, fInA, dRevT, fRevT, dCount, dCatT, notP_V, notP_R, notP_l, dIdx, sRaise, fSlQ, cutD, true_and, sTry, bDrop, bAsg, bIf, dIsH, dWhat, sPop, sIns, sParO, dLists, lCatL, dCallN, dCallNN, sParD, fMaxI, fSortI, sSeg, dStrewn, sSegB, dRepZ, mDictT, mDict, mVar, dGetI, dGet1, dGet2, dCallM, sMap, dMinIx, dCallP, dCallPX, lkAt, sTupO, sTupM, sPar3N, bAsgP, dCallPK, dCallPP, fSortQ, sTupO, sTupM, sTupE, dIsNoX, sSegL]
            refine ⟨by rw [sizeLine_eq]; decide, by omega, fun r r0 r1 => ?_⟩
            obtain ⟨j, j4, ej⟩ := eightD r0 r1
            refine ⟨_, .inl rfl, _, ej, j, rfl, by omega, by omega, Iin g ys fs i f so a8, ⟨[], _, _, rfl, rfl, by simp, by omega⟩, fun m x δ' ex hI => ?_, fun δ' hI => ?_⟩
            · obtain ⟨ll, b7, n3, rfl, el, hll, hn3⟩ := hI
              obtain ⟨rfl, mj⟩ := rg_inv ex
              rcases h8 with rfl | rfl
              · simp [initA, sRet, dB1, fAll, fAny, dVal, dLc, lLc, iSq, dRd, dVar, dFz, sSeq, sNext, sAsg, sOwn, sIf, sFor, sApp, sRetN, sDrop, sPar, sPar3, dC, dV, dOp, fI, fI0, fEq, fNe, fEqD, fNeD, fIn, dIx, dIxR, dTest, dNot, dAnd, dOr, dYes, dIfE, dAndV, dOrV, dNotV, dNeg, dNil, dCons, dConsR, dStar, dLst, dTup, lLst, lVar, lSl, lList, lCat, dL, dRep, gdName, gdNil, gdCons, gdSq, gdTup, bnd, iRg, iEn, iZp, zLv, dSl, dNoPart, dPart, fSlL, fSlT, fSlS, fLen, fLenA, fLenT, fList, fTuple, dCall0, dCallX, dCallT, WF.wp, lcStep, wipeD, lcOk, isOwn, isOwL, Lv.ch, Lv.sh, sc_n, sc_b, sc_i, sc_s, sc_l, sc_t, scD_ss, scD_ii, scD_bb, eqS_ss, eqS_ii, eqS_bb, isNo, okU, thn_rt, thn_bk, thn_ct, DEnds.loop, sCont, sBreak, fInt1, fMax2, fMin2, fIsi, fIsi2, dSetS, sParN, lRev, dDraw, dNames, dPartT, fSortS, fSortD, fRepr, fInD, fNotT, dTru, fIsB, tru, dSame, dCallK, fInA, dRevT, fRevT, dCount, dCatT, notP_V, notP_R, notP_l, dIdx, sRaise, fSlQ, cutD, true_and, sTry, bDrop, bAsg, bIf, dIsH, dWhat, sPop, sIns, sParO, dLists, lCatL, dCallN, dCallNN, sParD, fMaxI, fSortI, sSeg, dStrewn, sSegB, dRepZ, mDictT, mDict, mVar, dGetI, dGet1, dGet2, dCallM, sMap, dMinIx, dCallP, dCallPX, lkAt, sTupO, sTupM, sPar3N, bAsgP, dCallPK, dCallPP, fSortQ, sTupO, sTupM, sTupE, dIsNoX, sSegL, forTurn]
                refine ⟨_, .inl rfl, by omega, ?_, ?_, fun r r0 r1 => ⟨so, .inl rfl, r.toNat, by omega, by omega, by omega, ?_, fun zs rest pz lz => ⟨by rw [sizeLine_eq]; omega, ?_⟩⟩⟩
                · split <;> omega
                · rw [List.length_map]; split <;> omega
                · rw [List.length_map] at r1; split at r1 <;> omega
                · rw [List.length_map] at r1
                  have r11 : r ≤ 10 := by split at r1 <;> omega
                  have nz := pz.nodup_iff.mpr nds
                  refine ⟨ll ++ [zs], _, _, by rw [List.map_append]; rfl, by simp [el], fun z hz => ?_, by omega⟩
                  rcases List.mem_append.mp hz with hz | hz
                  · exact hll z hz
                  · rw [List.mem_singleton.mp hz]
                    exact ⟨(List.nodup_append.mp nz).1, by omega, fun x hx => pz.mem_iff.mp (List.mem_append_left _ hx)⟩
              · simp [initA, sRet, dB1, fAll, fAny, dVal, dLc, lLc, iSq, dRd, dVar, dFz, sSeq, sNext, sAsg, sOwn, sIf, sFor, sApp, sRetN, sDrop, sPar, sPar3, dC, dV, dOp, fI, fI0, fEq, fNe, fEqD, fNeD, fIn, dIx, dIxR, dTest, dNot, dAnd, dOr, dYes, dIfE, dAndV, dOrV, dNotV, dNeg, dNil, dCons, dConsR, dStar, dLst, dTup, lLst, lVar, lSl, lList, lCat, dL, dRep, gdName, gdNil, gdCons, gdSq, gdTup, bnd, iRg, iEn, iZp, zLv, dSl, dNoPart, dPart, fSlL, fSlT, fSlS, fLen, fLenA, fLenT, fList, fTuple, dCall0, dCallX, dCallT, WF.wp, lcStep, wipeD, lcOk, isOwn, isOwL, Lv.ch, Lv.sh, sc_n, sc_b, sc_i, sc_s, sc_l, sc_t, scD_ss, scD_ii, scD_bb, eqS_ss, eqS_ii, eqS_bb, isNo, okU, thn_rt, thn_bk, thn_ct, DEnds.loop, sCont, sBreak, fInt1, fMax2, fMin2, fIsi, fIsi2, dSetS, sParN, lRev, dDraw, dNames, dPartT, fSortS, fSortD, fRepr, fInD, fNotT, dTru, fIsB, tru, dSame, dCallK, fInA, dRevT, fRevT, dCount, dCatT, notP_V, notP_R, notP_l, dIdx, sRaise, fSlQ, cutD, true_and, sTry, bDrop, bAsg, bIf, dIsH, dWhat, sPop, sIns, sParO, dLists, lCatL, dCallN, dCallNN, sParD, fMaxI, fSortI, sSeg, dStrewn, sSegB, dRepZ, mDictT, mDict, mVar, dGetI, dGet1, dGet2, dCallM, sMap, dMinIx, dCallP, dCallPX, lkAt, sTupO, sTupM, sPar3N, bAsgP, dCallPK, dCallPP, fSortQ, sTupO, sTupM, sTupE, dIsNoX, sSegL, forTurn]
                refine ⟨_, .inl rfl, by omega, ?_, ?_, fun r r0 r1 => ⟨so, .inl rfl, r.toNat, by omega, by omega, by omega, ?_, fun zs rest pz lz => ⟨by rw [sizeLine_eq]; omega, ?_⟩⟩⟩
                · split <;> omega
                · rw [List.length_map]; split <;> omega
                · rw [List.length_map] at r1; split at r1 <;> omega
                · rw [List.length_map] at r1
                  have r11 : r ≤ 10 := by split at r1 <;> omega
                  have nz := pz.nodup_iff.mpr nds
                  refine ⟨ll ++ [zs], _, _, by rw [List.map_append]; rfl, by simp [el], fun z hz => ?_, by omega⟩
                  rcases List.mem_append.mp hz with hz | hz
                  · exact hll z hz
                  · rw [List.mem_singleton.mp hz]
                    exact ⟨(List.nodup_append.mp nz).1, by omega, fun x hx => pz.mem_iff.mp (List.mem_append_left _ hx)⟩
            · obtain ⟨ll, b7, n3, rfl, el, hll, hn3⟩ := hI
              rw [rgD_len] at el hn3
              simp at el hn3
              exact hB _ ⟨ll, _, _, _, rfl, by omega, hll, by omega⟩
          · rintro _ ⟨ll, b7, b8, n4, rfl, l4, hll, hn4⟩
            simp [initA, sRet, dB1, fAll, fAny, dVal, dLc, lLc, iSq, dRd, dVar, dFz, sSeq, sNext, sAsg, sOwn, sIf, sFor, sApp, sRetN, sDrop, sPar, sPar3, dC, dV, dOp, fI, fI0, fEq, fNe, fEqD, fNeD, fIn, dIx, dIxR, dTest, dNot, dAnd, dOr, dYes, dIfE, dAndV, dOrV, dNotV, dNeg, dNil, dCons, dConsR, dStar, dLst, dTup, lLst, lVar, lSl, lList, lCat, dL, dRep, gdName, gdNil, gdCons, gdSq, gdTup, bnd, iRg, iEn, iZp, zLv, dSl, dNoPart, dPart, fSlL, fSlT, fSlS, fLen, fLenA, fLenT, fList, fTuple, dCall0, dCallX, dCallT, WF.wp, lcStep, wipeD, lcOk, isOwn, isOwL, Lv.ch, Lv.sh, sc_n, sc_b, sc_i, sc_s, sc_l, sc_t, scD_ss, scD_ii, scD_bb, eqS_ss, eqS_ii, eqS_bb, isNo, okU, thn_rt, thn_bk, thn_ct, DEnds.loop, sCont, sBreak, fInt1, fMax2, fMin2, fIsi, fIsi2, dSetS, sParN, lRev, dDraw, dNames, dPartT, fSortS, fSortD, fRepr, fInD, fNotT, dTru, fIsB, tru, dSame, dCallK, fInA, dRevT, fRevT, dCount, dCatT, notP_V, notP_R, notP_l, dIdx, sRaise, fSlQ, cutD, true_and, sTry, bDrop, bAsg, bIf, dIsH, dWhat, sPop, sIns, sParO, dLists, lCatL, dCallN, dCallNN, sParD, fMaxI, fSortI, sSeg, dStrewn, sSegB, dRepZ, mDictT, mDict, mVar, dGetI, dGet1, dGet2, dCallM, sMap, dMinIx, dCallP, dCallPX, lkAt, sTupO, sTupM, sPar3N, bAsgP, dCallPK, dCallPP, fSortQ, sTupO, sTupM, sTupE, dIsNoX, sSegL]
            have hls : ∀ z ∈ ll, z.length < 60 ∧ okT z := fun z hz => ⟨by have := (hll z hz).2.1; omega, fun x hx => name_ok (nm x (pm.mem_iff.mp (hso x ((hll z hz).2.2 x hx)).1))⟩
            refine ⟨ll, ⟨rfl, by omega, hls⟩, ?_, fun _ _ z => z⟩
            rintro _ _ ⟨M, rfl, ndM, lM, hM⟩
            have fl : fs.length ≤ 26 := by
              have := congrArg List.length efs
              rw [List.length_map, List.length_take] at this
              omega
            refine ⟨_, .inl rfl, by rw [sizeLine_eq]; decide, by rw [sizeLine_eq]; omega, fs ++ [(f, M)], _, _, _, _, _, _, by rw [List.map_append]; rfl, by rw [List.map_append, efs, take_at e2]; rfl, fun p hp => ?_, by omega⟩
            rcases List.mem_append.mp hp with hp | hp
            · exact hfs p hp
            · rw [List.mem_singleton.mp hp]
              refine ⟨lM, fun z hz => ?_⟩
              obtain ⟨y, hy, pz⟩ := hM z hz
              obtain ⟨h1, h2, h3⟩ := hll y hy
              exact ⟨by rw [pz.length_eq]; exact h2, pz.nodup_iff.mpr h1, fun x hx => by
                have hx' := hso x (h3 x (pz.mem_iff.mp hx))
                exact ⟨pm.mem_iff.mp hx'.1, hx'.2⟩⟩
    · rw [enD_len, List.length_map] at hI
      exact hB _ hI
  · rintro _ ⟨fs, a5, a6, a7, a8, a9, n, rfl, efs, hfs, hn'⟩
    rw [List.take_length] at efs
    simp [initA, sRet, dB1, fAll, fAny, dVal, dLc, lLc, iSq, dRd, dVar, dFz, sSeq, sNext, sAsg, sOwn, sIf, sFor, sApp, sRetN, sDrop, sPar, sPar3, dC, dV, dOp, fI, fI0, fEq, fNe, fEqD, fNeD, fIn, dIx, dIxR, dTest, dNot, dAnd, dOr, dYes, dIfE, dAndV, dOrV, dNotV, dNeg, dNil, dCons, dConsR, dStar, dLst, dTup, lLst, lVar, lSl, lList, lCat, dL, dRep, gdName, gdNil, gdCons, gdSq, gdTup, bnd, iRg, iEn, iZp, zLv, dSl, dNoPart, dPart, fSlL, fSlT, fSlS, fLen, fLenA, fLenT, fList, fTuple, dCall0, dCallX, dCallT, WF.wp, lcStep, wipeD, lcOk, isOwn, isOwL, Lv.ch, Lv.sh, sc_n, sc_b, sc_i, sc_s, sc_l, sc_t, scD_ss, scD_ii, scD_bb, eqS_ss, eqS_ii, eqS_bb, isNo, okU, thn_rt, thn_bk, thn_ct, DEnds.loop, sCont, sBreak, fInt1, fMax2, fMin2, fIsi, fIsi2, dSetS, sParN, lRev, dDraw, dNames, dPartT, fSortS, fSortD, fRepr, fInD, fNotT, dTru, fIsB, tru, dSame, dCallK, fInA, dRevT, fRevT, dCount, dCatT, notP_V, notP_R, notP_l, dIdx, sRaise, fSlQ, cutD, true_and, sTry, bDrop, bAsg, bIf, dIsH, dWhat, sPop, sIns, sParO, dLists, lCatL, dCallN, dCallNN, sParD, fMaxI, fSortI, sSeg, dStrewn, sSegB, dRepZ, mDictT, mDict, mVar, dGetI, dGet1, dGet2, dCallM, sMap, dMinIx, dCallP, dCallPX, lkAt, sTupO, sTupM, sPar3N, bAsgP, dCallPK, dCallPP, fSortQ, sTupO, sTupM, sTupE, dIsNoX, sSegL]
    refine ⟨alike_fruits fs, .inr (.inl fun d hd => ?_), fun d x ls _ e => by rw [← e]; exact depth_fruit _, fun ps eps => ⟨_, .inl rfl, ?_⟩⟩
    · obtain ⟨p, _, rfl⟩ := List.mem_map.mp hd
      exact ⟨_, _, rfl⟩
    · have pmd : ((srtD ps).map (·.2)).Perm (fs.map fruitD) := by rw [← eps]; exact (List.mergeSort_perm _ _).map _
      obtain ⟨G, eG, pG⟩ := perm_unmap (f := fruitD) pmd fs rfl
      refine ⟨G, by rw [eG], ⟨?_, fun p hp => hfs p (pG.mem_iff.mp hp)⟩, by omega⟩
      refine ((pG.map _).trans ?_).trans pm
      rw [efs]
end
theorem sc_others : FnScope ["fruits", "fruit", "each"] ["fruits", "fruit"] (defScope s_others) := ⟨rfl, rfl, rfl, by decide +kernel, rfl, by decide +kernel, by decide +kernel⟩
theorem sc_passed_by : FnScope ["orchard", "liking", "picks", "gone", "ready", "best"] ["orchard", "liking"] (defScope s_passed_by) := ⟨rfl, rfl, rfl, by decide +kernel, rfl, by decide +kernel, by decide +kernel⟩
theorem sc_pick : FnScope ["orchard", "liking", "fruit", "passed"] ["orchard", "liking"] (defScope s_pick) := ⟨rfl, rfl, rfl, by decide +kernel, rfl, by decide +kernel, by decide +kernel⟩
section
variable {P : Program} {w : World} {K : PySem.W.Frag} {mg : Str → Option Value} {base : Heap}
theorem ok_others (T : Txt K mg) : FnOk P w K mg base CX0 1 T.f_others T.fd_others ["fruits", "fruit"] (spF K [false, false] wf_others) := by
  refine T.F_others.ok sc_others (fun vs H Q E h => spF_len h) (fun cdv A outer s H vs Q E hr h => ?_)
  refine ⟨_, (pss_one (ps_ret (pe_lc (own := [("each", 2)]) (g := (gName 2)) (tt := (tTest (tOp rNe (tVar 2) (tVar 1)))) (te := (tVar 2)) (by rfl) sc_others.nd (pi_any (pv 0)) (blkOk_by (own := [("each", 2)]) (N := ["fruits", "fruit", "each"]) (sc := defScope s_others) (by decide +kernel)) (fun _ _ _ _ _ => (pg_name (i := 2) sc_others.nd rfl (by first | exact Or.inl rfl | exact Or.inr rfl))) (fun _ _ _ _ _ => (pts_one (pt_cmpR op_ne (pv 2) (pv 1) (nomark _)))) (fun _ _ _ _ _ => (pv 2))))), ?_⟩
  try dsimp only [cxOf, Cx.nox, List.map]
  refine pu_fn h (fun (g : List Str × Str) ds hp => ?_)
  obtain ⟨a, rfl, ia, lg⟩ := hp
  have sa : sc a = false := by rcases ia with rfl | rfl <;> rfl
  simp [initA, sRet, dB1, fAll, fAny, dVal, dLc, lLc, iSq, dRd, dVar, dFz, sSeq, sNext, sAsg, sOwn, sIf, sFor, sApp, sRetN, sDrop, sPar, sPar3, dC, dV, dOp, fI, fI0, fEq, fNe, fEqD, fNeD, fIn, dIx, dIxR, dTest, dNot, dAnd, dOr, dYes, dIfE, dAndV, dOrV, dNotV, dNeg, dNil, dCons, dConsR, dStar, dLst, dTup, lLst, lVar, lSl, lList, lCat, dL, dRep, gdName, gdNil, gdCons, gdSq, gdTup, bnd, iRg, iEn, iZp, zLv, dSl, dNoPart, dPart, fSlL, fSlT, fSlS, fLen, fLenA, fLenT, fList, fTuple, dCall0, dCallX, dCallT, WF.wp, lcStep, wipeD, lcOk, isOwn, isOwL, Lv.ch, Lv.sh, sc_n, sc_b, sc_i, sc_s, sc_l, sc_t, scD_ss, scD_ii, scD_bb, eqS_ss, eqS_ii, eqS_bb, isNo, okU, thn_rt, thn_bk, thn_ct, DEnds.loop, sCont, sBreak, fInt1, fMax2, fMin2, fIsi, fIsi2, dSetS, sParN, lRev, dDraw, dNames, dPartT, fSortS, fSortD, fRepr, fInD, fNotT, dTru, fIsB, tru, dSame, dCallK, fInA, dRevT, fRevT, dCount, dCatT, notP_V, notP_R, notP_l, dIdx, sRaise, fSlQ, cutD, true_and, sTry, bDrop, bAsg, bIf, dIsH, dWhat, sPop, sIns, sParO, dLists, lCatL, dCallN, dCallNN, sParD, fMaxI, fSortI, sSeg, dStrewn, sSegB, dRepZ, mDictT, mDict, mVar, dGetI, dGet1, dGet2, dCallM, sMap, dMinIx, dCallP, dCallPX, lkAt, sTupO, sTupM, sPar3N, bAsgP, dCallPK, dCallPP, fSortQ, sTupO, sTupM, sTupE, dIsNoX, sSegL, sa]
  refine ⟨_, ia, lcGo_filter (al_map _ _) (fun z => !decide (z = g.2)) PyData.str (small lg) rfl ?_⟩
  rintro _ z acc k' zm rfl la q1 q2
  simp [initA, sRet, dB1, fAll, fAny, dVal, dLc, lLc, iSq, dRd, dVar, dFz, sSeq, sNext, sAsg, sOwn, sIf, sFor, sApp, sRetN, sDrop, sPar, sPar3, dC, dV, dOp, fI, fI0, fEq, fNe, fEqD, fNeD, fIn, dIx, dIxR, dTest, dNot, dAnd, dOr, dYes, dIfE, dAndV, dOrV, dNotV, dNeg, dNil, dCons, dConsR, dStar, dLst, dTup, lLst, lVar, lSl, lList, lCat, dL, dRep, gdName, gdNil, gdCons, gdSq, gdTup, bnd, iRg, iEn, iZp, zLv, dSl, dNoPart, dPart, fSlL, fSlT, fSlS, fLen, fLenA, fLenT, fList, fTuple, dCall0, dCallX, dCallT, WF.wp, lcStep, wipeD, lcOk, isOwn, isOwL, Lv.ch, Lv.sh, sc_n, sc_b, sc_i, sc_s, sc_l, sc_t, scD_ss, scD_ii, scD_bb, eqS_ss, eqS_ii, eqS_bb, isNo, okU, thn_rt, thn_bk, thn_ct, DEnds.loop, sCont, sBreak, fInt1, fMax2, fMin2, fIsi, fIsi2, dSetS, sParN, lRev, dDraw, dNames, dPartT, fSortS, fSortD, fRepr, fInD, fNotT, dTru, fIsB, tru, dSame, dCallK, fInA, dRevT, fRevT, dCount, dCatT, notP_V, notP_R, notP_l, dIdx, sRaise, fSlQ, cutD, true_and, sTry, bDrop, bAsg, bIf, dIsH, dWhat, sPop, sIns, sParO, dLists, lCatL, dCallN, dCallNN, sParD, fMaxI, fSortI, sSeg, dStrewn, sSegB, dRepZ, mDictT, mDict, mVar, dGetI, dGet1, dGet2, dCallM, sMap, dMinIx, dCallP, dCallPX, lkAt, sTupO, sTupM, sPar3N, bAsgP, dCallPK, dCallPP, fSortQ, sTupO, sTupM, sTupE, dIsNoX, sSegL]
  by_cases c : z = g.2
  · exact .inl ⟨c, q2 (by simp [c])⟩
  · exact .inr ⟨c, la, q1 (by simp [c])⟩
def Wps (g : Gr × List Str) (a b : PyData) (m : Nat) (δ : DS) : Prop := ∃ (i : Nat) (a5 : AV), (pickN g.1 g.2 i).length = i ∧ i + m = g.2.length ∧ δ = ⟨[.rd a, .rd b, .own ((psN g.1 g.2 i).map psD), .own ((pickN g.1 g.2 i).map .str), .dat (.list ((ripeG g.1 (pickN g.1 g.2 i)).map .str)), a5], 0⟩
theorem ok_passed_by (T : Txt K mg) (TB : LamX.TabB base mg T.cp_passed_by T.tp_passed_by) : FnOk P w K mg base CX0 5 T.f_passed_by T.fd_passed_by ["orchard", "liking"] (spP K T.tp_passed_by qPB [false, false] wf_passed) := by
  refine okC T.F_passed_by sc_passed_by (fun vs H Q E h => spP_len h) (fun cdv A outer s H vs Q E hc hr h => ?_)
  obtain rfl : cdv = .ref T.cp_passed_by := hc.symm.trans T.cd_passed_by
  refine ⟨_, (pss_cons (ps_set (i := 2) sc_passed_by.nd rfl (by first | exact Or.inl rfl | exact Or.inr rfl) (pe_lst pa_nil))
      (pss_cons (ps_set (i := 3) sc_passed_by.nd rfl (by first | exact Or.inl rfl | exact Or.inr rfl) (pe_lst pa_nil))
      (pss_cons (ps_set (i := 4) sc_passed_by.nd rfl (by first | exact Or.inl rfl | exact Or.inr rfl) (pe_call (ok_ripe T) (hr.mono (by decide)) (by rfl) T.g_ripe T.F_ripe.kp T.b_ripe .nil pass0 (pa_cons (pv 0) (pa_cons (pv 3) pa_nil))))
      (pss_cons (ps_while PassesOwn.never (kk_truth (pv 4)) (pss_cons (ps_set (i := 5) sc_passed_by.nd rfl (by first | exact Or.inl rfl | exact Or.inr rfl) (pe_minLam (k := 1) (p := "fruit") (q := qPB) (te := tVar 4) (tb := tIdx K (tVar 1) (tCons (tVar 6) tNil)) (by rfl) T.m_min TB rfl rfl (lam1_by (sc := defScope s_passed_by) (by decide +kernel)) (nin_by ["orchard", "liking", "picks", "gone", "ready", "best"] (by decide +kernel)) (hr.mono (by decide)) rfl (fun _ _ _ _ _ _ => rfl) (pv 4) (fun _ _ _ _ _ _ _ => by exact (pe_idx (pv 1) (pa_cons (pv 6) pa_nil))) (hpa := (pa_cons (pv 4) pa_nil))))
      (pss_cons (ps_expr (pe_bm PySem.F.plainAttrs_list PySem.F.slot_list_append PySem.F.type_list_append mt_append (pv 2) (pa_cons (pe_tupZ (pa_cons (pv 5) (pa_cons (pe_call (ok_others T) (hr.mono (by decide)) (by rfl) T.g_others T.F_others.kp T.b_others .nil pass0 (pa_cons (pv 4) (pa_cons (pv 5) pa_nil))) pa_nil))) pa_nil)))
      (pss_cons (ps_expr (pe_bm PySem.F.plainAttrs_list PySem.F.slot_list_append PySem.F.type_list_append mt_append (pv 3) (pa_cons (pv 5) pa_nil)))
      (pss_one (ps_set (i := 4) sc_passed_by.nd rfl (by first | exact Or.inl rfl | exact Or.inr rfl) (pe_call (ok_ripe T) (hr.mono (by decide)) (by rfl) T.g_ripe T.F_ripe.kp T.b_ripe .nil pass0 (pa_cons (pv 0) (pa_cons (pv 3) pa_nil)))))))))
      (pss_one (ps_ret (pv 2))))))), ?_⟩
  try dsimp only [cxOf, Cx.nox, List.map]
  refine pu_fnP h (fun (g : Gr × List Str) ds hp => ?_)
  obtain ⟨a, b, rfl, ea, ib, hG, gin, hl⟩ := hp
  obtain ⟨ds, ia, sa, al⟩ := gr_of ea
  have sb : sc b = false := by rcases ib with h | h <;> rw [h] <;> rfl
  have pre : ∀ gone : List Str, wf_ripe.pre (g.1, gone) [a, .list (gone.map .str)] 0 := fun gone => ⟨_, _, rfl, ea, by simp only [flat, flats_eq, List.map_map]; congr 1, hG⟩
  refine sSeq_rule (fun δ => δ = ⟨[.rd a, .rd b, .own [], .no, .no, .no], 0⟩) (fun B hB _ _ _ => ?_) ?_
  · simp [initA, sRet, dB1, fAll, fAny, dVal, dLc, lLc, iSq, dRd, dVar, dFz, sSeq, sNext, sAsg, sOwn, sIf, sFor, sApp, sRetN, sDrop, sPar, sPar3, dC, dV, dOp, fI, fI0, fEq, fNe, fEqD, fNeD, fIn, dIx, dIxR, dTest, dNot, dAnd, dOr, dYes, dIfE, dAndV, dOrV, dNotV, dNeg, dNil, dCons, dConsR, dStar, dLst, dTup, lLst, lVar, lSl, lList, lCat, dL, dRep, gdName, gdNil, gdCons, gdSq, gdTup, bnd, iRg, iEn, iZp, zLv, dSl, dNoPart, dPart, fSlL, fSlT, fSlS, fLen, fLenA, fLenT, fList, fTuple, dCall0, dCallX, dCallT, WF.wp, lcStep, wipeD, lcOk, isOwn, isOwL, Lv.ch, Lv.sh, sc_n, sc_b, sc_i, sc_s, sc_l, sc_t, scD_ss, scD_ii, scD_bb, eqS_ss, eqS_ii, eqS_bb, isNo, okU, thn_rt, thn_bk, thn_ct, DEnds.loop, sCont, sBreak, fInt1, fMax2, fMin2, fIsi, fIsi2, dSetS, sParN, lRev, dDraw, dNames, dPartT, fSortS, fSortD, fRepr, fInD, fNotT, dTru, fIsB, tru, dSame, dCallK, fInA, dRevT, fRevT, dCount, dCatT, notP_V, notP_R, notP_l, dIdx, sRaise, fSlQ, cutD, true_and, sTry, bDrop, bAsg, bIf, dIsH, dWhat, sPop, sIns, sParO, dLists, lCatL, dCallN, dCallNN, sParD, fMaxI, fSortI, sSeg, dStrewn, sSegB, dRepZ, mDictT, mDict, mVar, dGetI, dGet1, dGet2, dCallM, sMap, dMinIx, dCallP, dCallPX, lkAt, sTupO, sTupM, sPar3N, bAsgP, dCallPK, dCallPP, fSortQ, sTupO, sTupM, sTupE, dIsNoX, sSegL, sa, sb]
    exact hB _ rfl
  rintro _ rfl
  refine sSeq_rule (fun δ => δ = ⟨[.rd a, .rd b, .own [], .own [], .no, .no], 0⟩) (fun B hB _ _ _ => ?_) ?_
  · simp [initA, sRet, dB1, fAll, fAny, dVal, dLc, lLc, iSq, dRd, dVar, dFz, sSeq, sNext, sAsg, sOwn, sIf, sFor, sApp, sRetN, sDrop, sPar, sPar3, dC, dV, dOp, fI, fI0, fEq, fNe, fEqD, fNeD, fIn, dIx, dIxR, dTest, dNot, dAnd, dOr, dYes, dIfE, dAndV, dOrV, dNotV, dNeg, dNil, dCons, dConsR, dStar, dLst, dTup, lLst, lVar, lSl, lList, lCat, dL, dRep, gdName, gdNil, gdCons, gdSq, gdTup, bnd, iRg, iEn, iZp, zLv, dSl, dNoPart, dPart, fSlL, fSlT, fSlS, fLen, fLenA, fLenT, fList, fTuple, dCall0, dCallX, dCallT, WF.wp, lcStep, wipeD, lcOk, isOwn, isOwL, Lv.ch, Lv.sh, sc_n, sc_b, sc_i, sc_s, sc_l, sc_t, scD_ss, scD_ii, scD_bb, eqS_ss, eqS_ii, eqS_bb, isNo, okU, thn_rt, thn_bk, thn_ct, DEnds.loop, sCont, sBreak, fInt1, fMax2, fMin2, fIsi, fIsi2, dSetS, sParN, lRev, dDraw, dNames, dPartT, fSortS, fSortD, fRepr, fInD, fNotT, dTru, fIsB, tru, dSame, dCallK, fInA, dRevT, fRevT, dCount, dCatT, notP_V, notP_R, notP_l, dIdx, sRaise, fSlQ, cutD, true_and, sTry, bDrop, bAsg, bIf, dIsH, dWhat, sPop, sIns, sParO, dLists, lCatL, dCallN, dCallNN, sParD, fMaxI, fSortI, sSeg, dStrewn, sSegB, dRepZ, mDictT, mDict, mVar, dGetI, dGet1, dGet2, dCallM, sMap, dMinIx, dCallP, dCallPX, lkAt, sTupO, sTupM, sPar3N, bAsgP, dCallPK, dCallPP, fSortQ, sTupO, sTupM, sTupE, dIsNoX, sSegL]
    exact hB _ rfl
  rintro _ rfl
  refine sSeq_rule (Wps g a b g.2.length) (fun B hB _ _ _ => ?_) ?_
  · simp [initA, sRet, dB1, fAll, fAny, dVal, dLc, lLc, iSq, dRd, dVar, dFz, sSeq, sNext, sAsg, sOwn, sIf, sFor, sApp, sRetN, sDrop, sPar, sPar3, dC, dV, dOp, fI, fI0, fEq, fNe, fEqD, fNeD, fIn, dIx, dIxR, dTest, dNot, dAnd, dOr, dYes, dIfE, dAndV, dOrV, dNotV, dNeg, dNil, dCons, dConsR, dStar, dLst, dTup, lLst, lVar, lSl, lList, lCat, dL, dRep, gdName, gdNil, gdCons, gdSq, gdTup, bnd, iRg, iEn, iZp, zLv, dSl, dNoPart, dPart, fSlL, fSlT, fSlS, fLen, fLenA, fLenT, fList, fTuple, dCall0, dCallX, dCallT, WF.wp, lcStep, wipeD, lcOk, isOwn, isOwL, Lv.ch, Lv.sh, sc_n, sc_b, sc_i, sc_s, sc_l, sc_t, scD_ss, scD_ii, scD_bb, eqS_ss, eqS_ii, eqS_bb, isNo, okU, thn_rt, thn_bk, thn_ct, DEnds.loop, sCont, sBreak, fInt1, fMax2, fMin2, fIsi, fIsi2, dSetS, sParN, lRev, dDraw, dNames, dPartT, fSortS, fSortD, fRepr, fInD, fNotT, dTru, fIsB, tru, dSame, dCallK, fInA, dRevT, fRevT, dCount, dCatT, notP_V, notP_R, notP_l, dIdx, sRaise, fSlQ, cutD, true_and, sTry, bDrop, bAsg, bIf, dIsH, dWhat, sPop, sIns, sParO, dLists, lCatL, dCallN, dCallNN, sParD, fMaxI, fSortI, sSeg, dStrewn, sSegB, dRepZ, mDictT, mDict, mVar, dGetI, dGet1, dGet2, dCallM, sMap, dMinIx, dCallP, dCallPX, lkAt, sTupO, sTupM, sPar3N, bAsgP, dCallPK, dCallPP, fSortQ, sTupO, sTupM, sTupE, dIsNoX, sSegL]
    refine ⟨(g.1, []), pre [], ?_, fun _ _ z => z⟩
    rintro _ _ rfl
    exact hB _ ⟨0, _, rfl, by omega, rfl⟩
  intro δ0 hW0
  refine sSeq_rule (fun δ => ∃ i a5, (pickN g.1 g.2 i).length = i ∧ ripeG g.1 (pickN g.1 g.2 i) = [] ∧ δ = ⟨[.rd a, .rd b, .own ((psN g.1 g.2 i).map psD), .own ((pickN g.1 g.2 i).map .str), .dat (.list ((ripeG g.1 (pickN g.1 g.2 i)).map .str)), a5], 0⟩) (fun B hB hrt _ _ => ?_) ?_
  · refine ⟨Wps g a b, ⟨_, hW0⟩, ?_⟩
    rintro m _ ⟨i, a5, li, lm, rfl⟩
    simp [initA, sRet, dB1, fAll, fAny, dVal, dLc, lLc, iSq, dRd, dVar, dFz, sSeq, sNext, sAsg, sOwn, sIf, sFor, sApp, sRetN, sDrop, sPar, sPar3, dC, dV, dOp, fI, fI0, fEq, fNe, fEqD, fNeD, fIn, dIx, dIxR, dTest, dNot, dAnd, dOr, dYes, dIfE, dAndV, dOrV, dNotV, dNeg, dNil, dCons, dConsR, dStar, dLst, dTup, lLst, lVar, lSl, lList, lCat, dL, dRep, gdName, gdNil, gdCons, gdSq, gdTup, bnd, iRg, iEn, iZp, zLv, dSl, dNoPart, dPart, fSlL, fSlT, fSlS, fLen, fLenA, fLenT, fList, fTuple, dCall0, dCallX, dCallT, WF.wp, lcStep, wipeD, lcOk, isOwn, isOwL, Lv.ch, Lv.sh, sc_n, sc_b, sc_i, sc_s, sc_l, sc_t, scD_ss, scD_ii, scD_bb, eqS_ss, eqS_ii, eqS_bb, isNo, okU, thn_rt, thn_bk, thn_ct, DEnds.loop, sCont, sBreak, fInt1, fMax2, fMin2, fIsi, fIsi2, dSetS, sParN, lRev, dDraw, dNames, dPartT, fSortS, fSortD, fRepr, fInD, fNotT, dTru, fIsB, tru, dSame, dCallK, fInA, dRevT, fRevT, dCount, dCatT, notP_V, notP_R, notP_l, dIdx, sRaise, fSlQ, cutD, true_and, sTry, bDrop, bAsg, bIf, dIsH, dWhat, sPop, sIns, sParO, dLists, lCatL, dCallN, dCallNN, sParD, fMaxI, fSortI, sSeg, dStrewn, sSegB, dRepZ, mDictT, mDict, mVar, dGetI, dGet1, dGet2, dCallM, sMap, dMinIx, dCallP, dCallPX, lkAt, sTupO, sTupM, sPar3N, bAsgP, dCallPK, dCallPP, fSortQ, sTupO, sTupM, sTupE, dIsNoX, sSegL, sWhile]
    by_cases c : ripeG g.1 (pickN g.1 g.2 i) = []
    · exact .inl ⟨c, hB _ ⟨i, a5, li, c, rfl⟩⟩
    · have inl : ∀ z ∈ ripeG g.1 (pickN g.1 g.2 i), z ∈ g.2 := fun z hz => by
        obtain ⟨p, hp, e, _⟩ := ripe_mem hz
        rw [← e]; exact gin p hp
      refine .inr ⟨c, _, rfl, c, g.2, ib, inl, fun z hz hm => ?_⟩
      have e := pick_next hz (inl z hz) hm
      have l2 : (pickN g.1 g.2 (i + 1)).length = i + 1 := by rw [e]; simp [li]
      have le := pick_le l2
      have rl : (ripeG g.1 (pickN g.1 g.2 i)).length ≤ 1000 := by
        unfold ripeG
        rw [List.length_map]
        exact Nat.le_trans (List.length_filter_le _ _) hG.1
      have pl : (psN g.1 g.2 i).length = i := by unfold psN; simp [li]
      rw [thn_nx]
      refine sSeq_rule (fun δ => δ = ⟨[.rd a, .rd b, .own ((psN g.1 g.2 (i + 1)).map psD), .own ((pickN g.1 g.2 i).map .str), .dat (.list ((ripeG g.1 (pickN g.1 g.2 i)).map .str)), .dat (.str z)], 0⟩) (fun B' hB' _ _ _ => ?_) ?_
      · simp [initA, sRet, dB1, fAll, fAny, dVal, dLc, lLc, iSq, dRd, dVar, dFz, sSeq, sNext, sAsg, sOwn, sIf, sFor, sApp, sRetN, sDrop, sPar, sPar3, dC, dV, dOp, fI, fI0, fEq, fNe, fEqD, fNeD, fIn, dIx, dIxR, dTest, dNot, dAnd, dOr, dYes, dIfE, dAndV, dOrV, dNotV, dNeg, dNil, dCons, dConsR, dStar, dLst, dTup, lLst, lVar, lSl, lList, lCat, dL, dRep, gdName, gdNil, gdCons, gdSq, gdTup, bnd, iRg, iEn, iZp, zLv, dSl, dNoPart, dPart, fSlL, fSlT, fSlS, fLen, fLenA, fLenT, fList, fTuple, dCall0, dCallX, dCallT, WF.wp, lcStep, wipeD, lcOk, isOwn, isOwL, Lv.ch, Lv.sh, sc_n, sc_b, sc_i, sc_s, sc_l, sc_t, scD_ss, scD_ii, scD_bb, eqS_ss, eqS_ii, eqS_bb, isNo, okU, thn_rt, thn_bk, thn_ct, DEnds.loop, sCont, sBreak, fInt1, fMax2, fMin2, fIsi, fIsi2, dSetS, sParN, lRev, dDraw, dNames, dPartT, fSortS, fSortD, fRepr, fInD, fNotT, dTru, fIsB, tru, dSame, dCallK, fInA, dRevT, fRevT, dCount, dCatT, notP_V, notP_R, notP_l, dIdx, sRaise, fSlQ, cutD, true_and, sTry, bDrop, bAsg, bIf, dIsH, dWhat, sPop, sIns, sParO, dLists, lCatL, dCallN, dCallNN, sParD, fMaxI, fSortI, sSeg, dStrewn, sSegB, dRepZ, mDictT, mDict, mVar, dGetI, dGet1, dGet2, dCallM, sMap, dMinIx, dCallP, dCallPX, lkAt, sTupO, sTupM, sPar3N, bAsgP, dCallPK, dCallPP, fSortQ, sTupO, sTupM, sTupE, dIsNoX, sSegL]
        refine ⟨(ripeG g.1 (pickN g.1 g.2 i), z), ⟨_, rfl, .inl rfl, rl⟩, ?_, fun _ _ z => z⟩
        rintro _ _ rfl
        exact ⟨by rw [sizeLine_eq]; decide, by rw [pl, sizeLine_eq]; omega, hB' _ (by rw [ps_succ li e, List.map_append]; rfl)⟩
      rintro _ rfl
      refine sSeq_rule (fun δ => δ = ⟨[.rd a, .rd b, .own ((psN g.1 g.2 (i + 1)).map psD), .own ((pickN g.1 g.2 (i + 1)).map .str), .dat (.list ((ripeG g.1 (pickN g.1 g.2 i)).map .str)), .dat (.str z)], 0⟩) (fun B' hB' _ _ _ => ?_) ?_
      · simp [initA, sRet, dB1, fAll, fAny, dVal, dLc, lLc, iSq, dRd, dVar, dFz, sSeq, sNext, sAsg, sOwn, sIf, sFor, sApp, sRetN, sDrop, sPar, sPar3, dC, dV, dOp, fI, fI0, fEq, fNe, fEqD, fNeD, fIn, dIx, dIxR, dTest, dNot, dAnd, dOr, dYes, dIfE, dAndV, dOrV, dNotV, dNeg, dNil, dCons, dConsR, dStar, dLst, dTup, lLst, lVar, lSl, lList, lCat, dL, dRep, gdName, gdNil, gdCons, gdSq, gdTup, bnd, iRg, iEn, iZp, zLv, dSl, dNoPart, dPart, fSlL, fSlT, fSlS, fLen, fLenA, fLenT, fList, fTuple, dCall0, dCallX, dCallT, WF.wp, lcStep, wipeD, lcOk, isOwn, isOwL, Lv.ch, Lv.sh, sc_n, sc_b, sc_i, sc_s, sc_l, sc_t, scD_ss, scD_ii, scD_bb, eqS_ss, eqS_ii, eqS_bb, isNo, okU, thn_rt, thn_bk, thn_ct, DEnds.loop, sCont, sBreak, fInt1, fMax2, fMin2, fIsi, fIsi2, dSetS, sParN, lRev, dDraw, dNames, dPartT, fSortS, fSortD, fRepr, fInD, fNotT, dTru, fIsB, tru, dSame, dCallK, fInA, dRevT, fRevT, dCount, dCatT, notP_V, notP_R, notP_l, dIdx, sRaise, fSlQ, cutD, true_and, sTry, bDrop, bAsg, bIf, dIsH, dWhat, sPop, sIns, sParO, dLists, lCatL, dCallN, dCallNN, sParD, fMaxI, fSortI, sSeg, dStrewn, sSegB, dRepZ, mDictT, mDict, mVar, dGetI, dGet1, dGet2, dCallM, sMap, dMinIx, dCallP, dCallPX, lkAt, sTupO, sTupM, sPar3N, bAsgP, dCallPK, dCallPP, fSortQ, sTupO, sTupM, sTupE, dIsNoX, sSegL]
        exact ⟨by rw [li, sizeLine_eq]; omega, hB' _ (by rw [e, List.map_append]; rfl)⟩
      rintro _ rfl
      simp [initA, sRet, dB1, fAll, fAny, dVal, dLc, lLc, iSq, dRd, dVar, dFz, sSeq, sNext, sAsg, sOwn, sIf, sFor, sApp, sRetN, sDrop, sPar, sPar3, dC, dV, dOp, fI, fI0, fEq, fNe, fEqD, fNeD, fIn, dIx, dIxR, dTest, dNot, dAnd, dOr, dYes, dIfE, dAndV, dOrV, dNotV, dNeg, dNil, dCons, dConsR, dStar, dLst, dTup, lLst, lVar, lSl, lList, lCat, dL, dRep, gdName, gdNil, gdCons, gdSq, gdTup, bnd, iRg, iEn, iZp, zLv, dSl, dNoPart, dPart, fSlL, fSlT, fSlS, fLen, fLenA, fLenT, fList, fTuple, dCall0, dCallX, dCallT, WF.wp, lcStep, wipeD, lcOk, isOwn, isOwL, Lv.ch, Lv.sh, sc_n, sc_b, sc_i, sc_s, sc_l, sc_t, scD_ss, scD_ii, scD_bb, eqS_ss, eqS_ii, eqS_bb, isNo, okU, thn_rt, thn_bk, thn_ct, DEnds.loop, sCont, sBreak, fInt1, fMax2, fMin2, fIsi, fIsi2, dSetS, sParN, lRev, dDraw, dNames, dPartT, fSortS, fSortD, fRepr, fInD, fNotT, dTru, fIsB, tru, dSame, dCallK, fInA, dRevT, fRevT, dCount, dCatT, notP_V, notP_R, notP_l, dIdx, sRaise, fSlQ, cutD, true_and, sTry, bDrop, bAsg, bIf, dIsH, dWhat, sPop, sIns, sParO, dLists, lCatL, dCallN, dCallNN, sParD, fMaxI, fSortI, sSeg, dStrewn, sSegB, dRepZ, mDictT, mDict, mVar, dGetI, dGet1, dGet2, dCallM, sMap, dMinIx, dCallP, dCallPX, lkAt, sTupO, sTupM, sPar3N, bAsgP, dCallPK, dCallPP, fSortQ, sTupO, sTupM, sTupE, dIsNoX, sSegL]
      refine ⟨(g.1, pickN g.1 g.2 (i + 1)), pre _, ?_, fun _ _ z => z⟩
      rintro _ _ rfl
      exact ⟨m - 1, by omega, i + 1, _, l2, by omega, rfl⟩
  rintro _ ⟨i, a5, li, e, rfl⟩
  simp [initA, sRet, dB1, fAll, fAny, dVal, dLc, lLc, iSq, dRd, dVar, dFz, sSeq, sNext, sAsg, sOwn, sIf, sFor, sApp, sRetN, sDrop, sPar, sPar3, dC, dV, dOp, fI, fI0, fEq, fNe, fEqD, fNeD, fIn, dIx, dIxR, dTest, dNot, dAnd, dOr, dYes, dIfE, dAndV, dOrV, dNotV, dNeg, dNil, dCons, dConsR, dStar, dLst, dTup, lLst, lVar, lSl, lList, lCat, dL, dRep, gdName, gdNil, gdCons, gdSq, gdTup, bnd, iRg, iEn, iZp, zLv, dSl, dNoPart, dPart, fSlL, fSlT, fSlS, fLen, fLenA, fLenT, fList, fTuple, dCall0, dCallX, dCallT, WF.wp, lcStep, wipeD, lcOk, isOwn, isOwL, Lv.ch, Lv.sh, sc_n, sc_b, sc_i, sc_s, sc_l, sc_t, scD_ss, scD_ii, scD_bb, eqS_ss, eqS_ii, eqS_bb, isNo, okU, thn_rt, thn_bk, thn_ct, DEnds.loop, sCont, sBreak, fInt1, fMax2, fMin2, fIsi, fIsi2, dSetS, sParN, lRev, dDraw, dNames, dPartT, fSortS, fSortD, fRepr, fInD, fNotT, dTru, fIsB, tru, dSame, dCallK, fInA, dRevT, fRevT, dCount, dCatT, notP_V, notP_R, notP_l, dIdx, sRaise, fSlQ, cutD, true_and, sTry, bDrop, bAsg, bIf, dIsH, dWhat, sPop, sIns, sParO, dLists, lCatL, dCallN, dCallNN, sParD, fMaxI, fSortI, sSeg, dStrewn, sSegB, dRepZ, mDictT, mDict, mVar, dGetI, dGet1, dGet2, dCallM, sMap, dMinIx, dCallP, dCallPX, lkAt, sTupO, sTupM, sPar3N, bAsgP, dCallPK, dCallPP, fSortQ, sTupO, sTupM, sTupE, dIsNoX, sSegL]
  show PyData.list _ = PyData.list _
  rw [ps_done li e]
theorem ok_pick (T : Txt K mg) (TB : LamX.TabB base mg T.cp_passed_by T.tp_passed_by) : FnOk P w K mg base CX0 6 T.f_pick T.fd_pick ["orchard", "liking"] (spP K T.tp_passed_by qPB [false, false] wf_pickP) := by
  refine T.F_pick.ok sc_pick (fun vs H Q E h => spP_len h) (fun cdv A outer s H vs Q E hr h => ?_)
  refine ⟨_, (pss_one (ps_ret (pe_lc (own := [("fruit", 2), ("passed", 3)]) (g := (gTup K 2 (gCons (gName 2) (gCons (gName 3) gNil)))) (tt := tYes) (te := (tVar 2)) (by rfl) sc_pick.nd (pi_any (pe_call (ok_passed_by T TB) (hr.mono (by decide)) (by rfl) T.g_passed_by T.F_passed_by.kp T.b_passed_by .nil pass0 (pa_cons (pv 0) (pa_cons (pv 1) pa_nil)))) (blkOk_by (own := [("fruit", 2), ("passed", 3)]) (N := ["orchard", "liking", "fruit", "passed"]) (sc := defScope s_pick) (by decide +kernel)) (fun _ _ _ _ _ => (pg_tup (n := 2) rfl (pgs_cons (pg_name (i := 2) sc_pick.nd rfl (by first | exact Or.inl rfl | exact Or.inr rfl)) (pgs_cons (pg_name (i := 3) sc_pick.nd rfl (by first | exact Or.inl rfl | exact Or.inr rfl)) pgs_nil)))) (fun _ _ _ _ _ => pts_nil) (fun _ _ _ _ _ => (pv 2))))), ?_⟩
  try dsimp only [cxOf, Cx.nox, List.map]
  refine pu_fnP h (fun (g : Gr × List Str) ds hp => ?_)
  obtain ⟨a, b, rfl, ea, ib, hG, gin, hl⟩ := hp
  obtain ⟨ds, ia, sa, al⟩ := gr_of ea
  have sb : sc b = false := by rcases ib with h | h <;> rw [h] <;> rfl
  simp [initA, sRet, dB1, fAll, fAny, dVal, dLc, lLc, iSq, dRd, dVar, dFz, sSeq, sNext, sAsg, sOwn, sIf, sFor, sApp, sRetN, sDrop, sPar, sPar3, dC, dV, dOp, fI, fI0, fEq, fNe, fEqD, fNeD, fIn, dIx, dIxR, dTest, dNot, dAnd, dOr, dYes, dIfE, dAndV, dOrV, dNotV, dNeg, dNil, dCons, dConsR, dStar, dLst, dTup, lLst, lVar, lSl, lList, lCat, dL, dRep, gdName, gdNil, gdCons, gdSq, gdTup, bnd, iRg, iEn, iZp, zLv, dSl, dNoPart, dPart, fSlL, fSlT, fSlS, fLen, fLenA, fLenT, fList, fTuple, dCall0, dCallX, dCallT, WF.wp, lcStep, wipeD, lcOk, isOwn, isOwL, Lv.ch, Lv.sh, sc_n, sc_b, sc_i, sc_s, sc_l, sc_t, scD_ss, scD_ii, scD_bb, eqS_ss, eqS_ii, eqS_bb, isNo, okU, thn_rt, thn_bk, thn_ct, DEnds.loop, sCont, sBreak, fInt1, fMax2, fMin2, fIsi, fIsi2, dSetS, sParN, lRev, dDraw, dNames, dPartT, fSortS, fSortD, fRepr, fInD, fNotT, dTru, fIsB, tru, dSame, dCallK, fInA, dRevT, fRevT, dCount, dCatT, notP_V, notP_R, notP_l, dIdx, sRaise, fSlQ, cutD, true_and, sTry, bDrop, bAsg, bIf, dIsH, dWhat, sPop, sIns, sParO, dLists, lCatL, dCallN, dCallNN, sParD, fMaxI, fSortI, sSeg, dStrewn, sSegB, dRepZ, mDictT, mDict, mVar, dGetI, dGet1, dGet2, dCallM, sMap, dMinIx, dCallP, dCallPX, lkAt, sTupO, sTupM, sPar3N, bAsgP, dCallPK, dCallPP, fSortQ, sTupO, sTupM, sTupE, dIsNoX, sSegL, sa, sb]
  refine ⟨g, ⟨a, b, rfl, ea, ib, hG, gin, hl⟩, ?_, fun _ _ z => z⟩
  rintro _ _ rfl
  have pl : (passedG g.1 g.2).length ≤ 1000 := by
    have := congrArg List.length (ps_fst g.1 g.2)
    rw [List.length_map] at this
    rw [this]
    exact Nat.le_trans (pickN_len g.1 g.2 g.2.length) (by omega)
  refine ⟨_, .inl rfl, lcGo_map (al_map _ _) (fun p => .str p.1) (small pl) ?_ ?_⟩
  · show PyData.list _ = PyData.list _
    rw [← ps_fst, List.map_map]; rfl
  · rintro _ p acc k' hp rfl la q
    refine gdTup2 rfl rfl ?_
    simp [initA, sRet, dB1, fAll, fAny, dVal, dLc, lLc, iSq, dRd, dVar, dFz, sSeq, sNext, sAsg, sOwn, sIf, sFor, sApp, sRetN, sDrop, sPar, sPar3, dC, dV, dOp, fI, fI0, fEq, fNe, fEqD, fNeD, fIn, dIx, dIxR, dTest, dNot, dAnd, dOr, dYes, dIfE, dAndV, dOrV, dNotV, dNeg, dNil, dCons, dConsR, dStar, dLst, dTup, lLst, lVar, lSl, lList, lCat, dL, dRep, gdName, gdNil, gdCons, gdSq, gdTup, bnd, iRg, iEn, iZp, zLv, dSl, dNoPart, dPart, fSlL, fSlT, fSlS, fLen, fLenA, fLenT, fList, fTuple, dCall0, dCallX, dCallT, WF.wp, lcStep, wipeD, lcOk, isOwn, isOwL, Lv.ch, Lv.sh, sc_n, sc_b, sc_i, sc_s, sc_l, sc_t, scD_ss, scD_ii, scD_bb, eqS_ss, eqS_ii, eqS_bb, isNo, okU, thn_rt, thn_bk, thn_ct, DEnds.loop, sCont, sBreak, fInt1, fMax2, fMin2, fIsi, fIsi2, dSetS, sParN, lRev, dDraw, dNames, dPartT, fSortS, fSortD, fRepr, fInD, fNotT, dTru, fIsB, tru, dSame, dCallK, fInA, dRevT, fRevT, dCount, dCatT, notP_V, notP_R, notP_l, dIdx, sRaise, fSlQ, cutD, true_and, sTry, bDrop, bAsg, bIf, dIsH, dWhat, sPop, sIns, sParO, dLists, lCatL, dCallN, dCallNN, sParD, fMaxI, fSortI, sSeg, dStrewn, sSegB, dRepZ, mDictT, mDict, mVar, dGetI, dGet1, dGet2, dCallM, sMap, dMinIx, dCallP, dCallPX, lkAt, sTupO, sTupM, sPar3N, bAsgP, dCallPK, dCallPP, fSortQ, sTupO, sTupM, sTupE, dIsNoX, sSegL]
    exact ⟨la, q⟩
end
theorem sc__law_ripe : FnScope ["_law_orchards", "_law_gone", "_law_found", "_law_fruits", "_law_lots", "_law_lot"] ["_law_orchards", "_law_gone"] (defScope s__law_ripe) := ⟨rfl, rfl, rfl, by decide +kernel, rfl, by decide +kernel, by decide +kernel⟩
theorem sc__law_picked : FnScope ["_law_orchards", "_law_likings", "_law_gone", "_law_turn_here", "_law_some", "_law_fruits"] ["_law_orchards", "_law_likings"] (defScope s__law_picked) := ⟨rfl, rfl, rfl, by decide +kernel, rfl, by decide +kernel, by decide +kernel⟩
section
variable {P : Program} {w : World} {K : PySem.W.Frag} {mg : Str → Option Value} {base : Heap}
theorem ok__law_ripe (T : Txt K mg) : FnOk P w K mg base CX0 3 T.f__law_ripe T.fd__law_ripe ["_law_orchards", "_law_gone"] (spF K [false, false] wf_ripe) := by
  refine T.F__law_ripe.ok sc__law_ripe (fun vs H Q E h => spF_len h) (fun cdv A outer s H vs Q E hr h => ?_)
  refine ⟨_, (pss_cons (ps_setLc (i := 2) (own := [("_law_fruits", 3), ("_law_lots", 4)]) (g := (gSq K 2 (gCons (gName 3) (gCons (gName 4) gNil)))) (tt := (tB (tCB (rAny K) (tCons (tLc (iAny K (tVar 4)) (gName 5) tYes (tCall (spF K [false, false] wf_in) [] E0 (tCons (tVar 5) (tCons (tVar 1) tNil))) [5]) tNil)))) (te := (tVar 3)) (by rfl) sc__law_ripe.nd rfl rfl (sw_true rfl rfl rfl (by decide +kernel)) (pi_any (pv 0)) (blkOk_by (own := [("_law_fruits", 3), ("_law_lots", 4)]) (N := ["_law_orchards", "_law_gone", "_law_found", "_law_fruits", "_law_lots", "_law_lot"]) (sc := defScope s__law_ripe) (by decide +kernel)) (fun _ _ _ _ _ => (pg_sq (n := 2) rfl (pgs_cons (pg_name (i := 3) sc__law_ripe.nd rfl (by first | exact Or.inl rfl | exact Or.inr rfl)) (pgs_cons (pg_name (i := 4) sc__law_ripe.nd rfl (by first | exact Or.inl rfl | exact Or.inr rfl)) pgs_nil)))) (fun _ _ _ _ _ => (pts_one (pt_val (pe_callB (cr_any rfl) (by rfl) T.m_any (by decide +kernel) (pa_cons (pe_lc (own := [("_law_lot", 5)]) (g := (gName 5)) (tt := tYes) (te := (tCall (spF K [false, false] wf_in) [] E0 (tCons (tVar 5) (tCons (tVar 1) tNil)))) (by rfl) sc__law_ripe.nd (pi_any (pv 4)) (blkOk_by (own := [("_law_lot", 5)]) (N := ["_law_orchards", "_law_gone", "_law_found", "_law_fruits", "_law_lots", "_law_lot"]) (sc := { kind := .function, names := [(Str.ofString ".0", .local), (Str.ofString "_law_fruits", .local), (Str.ofString "_law_lots", .local), (Str.ofString "any", .globalImplicit), (Str.ofString "_law_gone", .cell)], isGenerator := false, isCoroutine := false }) (by decide +kernel)) (fun _ _ _ _ _ => (pg_name (i := 5) sc__law_ripe.nd rfl (by first | exact Or.inl rfl | exact Or.inr rfl))) (fun _ _ _ _ _ => pts_nil) (fun _ _ _ _ _ => (pe_call (ok__law_within T) (hr.mono (by decide)) (by rfl) T.g__law_within T.F__law_within.kp T.b__law_within .nil pass0 (pa_cons (pv 5) (pa_cons (pv 1) pa_nil))))) pa_nil))))) (fun _ _ _ _ _ => (pv 3)))
      (pss_one (ps_ret (pe_lc (own := [("_law_fruits", 3)]) (g := (gName 3)) (tt := (tTest (tOp (rIn K true) (tVar 3) (tVar 1)))) (te := (tVar 3)) (by rfl) sc__law_ripe.nd (pi_any (pv 2)) (blkOk_by (own := [("_law_fruits", 3)]) (N := ["_law_orchards", "_law_gone", "_law_found", "_law_fruits", "_law_lots", "_law_lot"]) (sc := defScope s__law_ripe) (by decide +kernel)) (fun _ _ _ _ _ => (pg_name (i := 3) sc__law_ripe.nd rfl (by first | exact Or.inl rfl | exact Or.inr rfl))) (fun _ _ _ _ _ => (pts_one (pt_cmpR op_notIn_seq (pv 3) (pv 1) (by rfl)))) (fun _ _ _ _ _ => (pv 3)))))), ?_⟩
  dsimp only [cxOf, Cx.nox, List.map]
  refine pu_fn h (fun (g : Gr × List Str) ds hp => ?_)
  obtain ⟨a, b, rfl, ea, eb, hG⟩ := hp
  obtain ⟨ds, ia, sa, al⟩ := gr_of ea
  obtain ⟨ib, sb⟩ := tx_of eb
  simp [initA, sRet, dB1, fAll, fAny, dVal, dLc, lLc, iSq, dRd, dVar, dFz, sSeq, sNext, sAsg, sOwn, sIf, sFor, sApp, sRetN, sDrop, sPar, sPar3, dC, dV, dOp, fI, fI0, fEq, fNe, fEqD, fNeD, fIn, dIx, dIxR, dTest, dNot, dAnd, dOr, dYes, dIfE, dAndV, dOrV, dNotV, dNeg, dNil, dCons, dConsR, dStar, dLst, dTup, lLst, lVar, lSl, lList, lCat, dL, dRep, gdName, gdNil, gdCons, gdSq, gdTup, bnd, iRg, iEn, iZp, zLv, dSl, dNoPart, dPart, fSlL, fSlT, fSlS, fLen, fLenA, fLenT, fList, fTuple, dCall0, dCallX, dCallT, WF.wp, lcStep, wipeD, lcOk, isOwn, isOwL, Lv.ch, Lv.sh, sc_n, sc_b, sc_i, sc_s, sc_l, sc_t, scD_ss, scD_ii, scD_bb, eqS_ss, eqS_ii, eqS_bb, isNo, okU, thn_rt, thn_bk, thn_ct, DEnds.loop, sCont, sBreak, fInt1, fMax2, fMin2, fIsi, fIsi2, dSetS, sParN, lRev, dDraw, dNames, dPartT, fSortS, fSortD, fRepr, fInD, fNotT, dTru, fIsB, tru, dSame, dCallK, fInA, dRevT, fRevT, dCount, dCatT, notP_V, notP_R, notP_l, dIdx, sRaise, fSlQ, cutD, true_and, sTry, bDrop, bAsg, bIf, dIsH, dWhat, sPop, sIns, sParO, dLists, lCatL, dCallN, dCallNN, sParD, fMaxI, fSortI, sSeg, dStrewn, sSegB, dRepZ, mDictT, mDict, mVar, dGetI, dGet1, dGet2, dCallM, sMap, dMinIx, dCallP, dCallPX, lkAt, sTupO, sTupM, sPar3N, bAsgP, dCallPK, dCallPP, fSortQ, sTupO, sTupM, sTupE, dIsNoX, sSegL, thn_nx, sa, sb]
  refine ⟨_, ia, ?_⟩
  refine lcGo_filter al (fun p => inOne p.2 g.2) (fun p => .str p.1) (small hG.1) ?_ ?_
  · refine ⟨_, .inl rfl, ?_⟩
    rw [show ((g.1.filter fun p => inOne p.2 g.2).map fun p => PyData.str p.1) = ((g.1.filter fun p => inOne p.2 g.2).map (·.1)).map PyData.str by rw [List.map_map]; rfl]
    refine lcGo_filter (al_map _ _) (fun z => !decide (z ∈ g.2)) PyData.str (small (m := 1000) (by rw [List.length_map]; exact Nat.le_trans (List.length_filter_le _ _) hG.1)) ?_ ?_
    · show PyData.list _ = .list ((ripeG g.1 g.2).map .str)
      congr 2
      unfold ripeG
      rw [List.filter_map, List.filter_filter]
      rfl
    · rintro _ z acc k' zm rfl la q1 q2
      simp [initA, sRet, dB1, fAll, fAny, dVal, dLc, lLc, iSq, dRd, dVar, dFz, sSeq, sNext, sAsg, sOwn, sIf, sFor, sApp, sRetN, sDrop, sPar, sPar3, dC, dV, dOp, fI, fI0, fEq, fNe, fEqD, fNeD, fIn, dIx, dIxR, dTest, dNot, dAnd, dOr, dYes, dIfE, dAndV, dOrV, dNotV, dNeg, dNil, dCons, dConsR, dStar, dLst, dTup, lLst, lVar, lSl, lList, lCat, dL, dRep, gdName, gdNil, gdCons, gdSq, gdTup, bnd, iRg, iEn, iZp, zLv, dSl, dNoPart, dPart, fSlL, fSlT, fSlS, fLen, fLenA, fLenT, fList, fTuple, dCall0, dCallX, dCallT, WF.wp, lcStep, wipeD, lcOk, isOwn, isOwL, Lv.ch, Lv.sh, sc_n, sc_b, sc_i, sc_s, sc_l, sc_t, scD_ss, scD_ii, scD_bb, eqS_ss, eqS_ii, eqS_bb, isNo, okU, thn_rt, thn_bk, thn_ct, DEnds.loop, sCont, sBreak, fInt1, fMax2, fMin2, fIsi, fIsi2, dSetS, sParN, lRev, dDraw, dNames, dPartT, fSortS, fSortD, fRepr, fInD, fNotT, dTru, fIsB, tru, dSame, dCallK, fInA, dRevT, fRevT, dCount, dCatT, notP_V, notP_R, notP_l, dIdx, sRaise, fSlQ, cutD, true_and, sTry, bDrop, bAsg, bIf, dIsH, dWhat, sPop, sIns, sParO, dLists, lCatL, dCallN, dCallNN, sParD, fMaxI, fSortI, sSeg, dStrewn, sSegB, dRepZ, mDictT, mDict, mVar, dGetI, dGet1, dGet2, dCallM, sMap, dMinIx, dCallP, dCallPX, lkAt, sTupO, sTupM, sPar3N, bAsgP, dCallPK, dCallPP, fSortQ, sTupO, sTupM, sTupE, dIsNoX, sSegL]
      refine ⟨_, ib, sc_strsM _, ?_⟩
      rw [inD_strs]
      by_cases hin : z ∈ g.2
      · exact .inl ⟨by simp [hin], q2 (by simp [hin])⟩
      · exact .inr ⟨by simp [hin], la, q1 (by simp [hin])⟩
  · rintro d p acc k' hx hd la q1 q2
    obtain ⟨l, id, sd, el, sl⟩ := fruit_of' hd
    obtain ⟨ds2, il, _, al2⟩ := lots_of' el
    refine gdSq2 id rfl (bnd_rd sl) ?_
    simp [initA, sRet, dB1, fAll, fAny, dVal, dLc, lLc, iSq, dRd, dVar, dFz, sSeq, sNext, sAsg, sOwn, sIf, sFor, sApp, sRetN, sDrop, sPar, sPar3, dC, dV, dOp, fI, fI0, fEq, fNe, fEqD, fNeD, fIn, dIx, dIxR, dTest, dNot, dAnd, dOr, dYes, dIfE, dAndV, dOrV, dNotV, dNeg, dNil, dCons, dConsR, dStar, dLst, dTup, lLst, lVar, lSl, lList, lCat, dL, dRep, gdName, gdNil, gdCons, gdSq, gdTup, bnd, iRg, iEn, iZp, zLv, dSl, dNoPart, dPart, fSlL, fSlT, fSlS, fLen, fLenA, fLenT, fList, fTuple, dCall0, dCallX, dCallT, WF.wp, lcStep, wipeD, lcOk, isOwn, isOwL, Lv.ch, Lv.sh, sc_n, sc_b, sc_i, sc_s, sc_l, sc_t, scD_ss, scD_ii, scD_bb, eqS_ss, eqS_ii, eqS_bb, isNo, okU, thn_rt, thn_bk, thn_ct, DEnds.loop, sCont, sBreak, fInt1, fMax2, fMin2, fIsi, fIsi2, dSetS, sParN, lRev, dDraw, dNames, dPartT, fSortS, fSortD, fRepr, fInD, fNotT, dTru, fIsB, tru, dSame, dCallK, fInA, dRevT, fRevT, dCount, dCatT, notP_V, notP_R, notP_l, dIdx, sRaise, fSlQ, cutD, true_and, sTry, bDrop, bAsg, bIf, dIsH, dWhat, sPop, sIns, sParO, dLists, lCatL, dCallN, dCallNN, sParD, fMaxI, fSortI, sSeg, dStrewn, sSegB, dRepZ, mDictT, mDict, mVar, dGetI, dGet1, dGet2, dCallM, sMap, dMinIx, dCallP, dCallPX, lkAt, sTupO, sTupM, sPar3N, bAsgP, dCallPK, dCallPP, fSortQ, sTupO, sTupM, sTupE, dIsNoX, sSegL, sa, sb]
    refine ⟨_, il, lcGo_map al2 (fun z => .bool (inAll z g.2)) (small (hG.2 p hx).1) ?_ ?_⟩
    · refine ⟨p.2.map fun z => inAll z g.2, by simp, ?_⟩
      have e : (true ∈ p.2.map fun z => inAll z g.2) ↔ inOne p.2 g.2 = true := by
        unfold inOne
        rw [List.any_eq_true]
        simp
      by_cases c : inOne p.2 g.2 = true
      · rw [if_pos (e.mpr c)]; exact ⟨la, q1 c⟩
      · rw [if_neg (fun h => c (e.mp h))]; exact q2 (by simpa using c)
    · rintro d z acc2 k2 zm hz la2 q3
      obtain ⟨iz, sz⟩ := tx_of hz
      simp [initA, sRet, dB1, fAll, fAny, dVal, dLc, lLc, iSq, dRd, dVar, dFz, sSeq, sNext, sAsg, sOwn, sIf, sFor, sApp, sRetN, sDrop, sPar, sPar3, dC, dV, dOp, fI, fI0, fEq, fNe, fEqD, fNeD, fIn, dIx, dIxR, dTest, dNot, dAnd, dOr, dYes, dIfE, dAndV, dOrV, dNotV, dNeg, dNil, dCons, dConsR, dStar, dLst, dTup, lLst, lVar, lSl, lList, lCat, dL, dRep, gdName, gdNil, gdCons, gdSq, gdTup, bnd, iRg, iEn, iZp, zLv, dSl, dNoPart, dPart, fSlL, fSlT, fSlS, fLen, fLenA, fLenT, fList, fTuple, dCall0, dCallX, dCallT, WF.wp, lcStep, wipeD, lcOk, isOwn, isOwL, Lv.ch, Lv.sh, sc_n, sc_b, sc_i, sc_s, sc_l, sc_t, scD_ss, scD_ii, scD_bb, eqS_ss, eqS_ii, eqS_bb, isNo, okU, thn_rt, thn_bk, thn_ct, DEnds.loop, sCont, sBreak, fInt1, fMax2, fMin2, fIsi, fIsi2, dSetS, sParN, lRev, dDraw, dNames, dPartT, fSortS, fSortD, fRepr, fInD, fNotT, dTru, fIsB, tru, dSame, dCallK, fInA, dRevT, fRevT, dCount, dCatT, notP_V, notP_R, notP_l, dIdx, sRaise, fSlQ, cutD, true_and, sTry, bDrop, bAsg, bIf, dIsH, dWhat, sPop, sIns, sParO, dLists, lCatL, dCallN, dCallNN, sParD, fMaxI, fSortI, sSeg, dStrewn, sSegB, dRepZ, mDictT, mDict, mVar, dGetI, dGet1, dGet2, dCallM, sMap, dMinIx, dCallP, dCallPX, lkAt, sTupO, sTupM, sPar3N, bAsgP, dCallPK, dCallPP, fSortQ, sTupO, sTupM, sTupE, dIsNoX, sSegL, sz]
      exact ⟨(z, g.2), ⟨_, _, rfl, hz, eb, (hG.2 p hx).2 z zm⟩, by rintro _ _ rfl; exact ⟨la2, q3⟩, fun _ _ z => z⟩
def Ipick (g : Gr × List Str) (a b : PyData) (i : Nat) (δ : DS) : Prop := ∃ a3 a4 : AV, δ = ⟨[.rd a, .rd b, .own ((pickN g.1 g.2 i).map .str), a3, a4, .no], 0⟩
theorem ok__law_picked (T : Txt K mg) : FnOk P w K mg base CX0 4 T.f__law_picked T.fd__law_picked ["_law_orchards", "_law_likings"] (spF K [false, false] wf_picked) := by
  refine T.F__law_picked.ok sc__law_picked (fun vs H Q E h => spF_len h) (fun cdv A outer s H vs Q E hr h => ?_)
  refine ⟨_, (pss_cons (ps_set (i := 2) sc__law_picked.nd rfl (by first | exact Or.inl rfl | exact Or.inr rfl) (pe_lst pa_nil))
      (pss_cons (ps_for PassesOwn.never rfl (pi_range1 (by rfl) T.m_range (pa_cons (pe_callB kk_len (by rfl) T.m_len (by decide +kernel) (pa_cons (pv 1) pa_nil)) pa_nil)) (pg_name (i := 3) sc__law_picked.nd rfl (by first | exact Or.inl rfl | exact Or.inr rfl))
      (pss_cons (ps_set (i := 4) sc__law_picked.nd rfl (by first | exact Or.inl rfl | exact Or.inr rfl) (pe_call (ok__law_ripe T) (hr.mono (by decide)) (by rfl) T.g__law_ripe T.F__law_ripe.kp T.b__law_ripe .nil pass0 (pa_cons (pv 0) (pa_cons (pv 2) pa_nil))))
      (pss_one (ps_set (i := 2) sc__law_picked.nd rfl (by first | exact Or.inl rfl | exact Or.inr rfl) (pe_op op_cat (pv 2) (pe_slice sl_list (pe_lc (own := [("_law_fruits", 5)]) (g := (gName 5)) (tt := (tTest (tOp (rIn K false) (tVar 5) (tVar 4)))) (te := (tVar 5)) (by rfl) sc__law_picked.nd (pi_any (pv 1)) (blkOk_by (own := [("_law_fruits", 5)]) (N := ["_law_orchards", "_law_likings", "_law_gone", "_law_turn_here", "_law_some", "_law_fruits"]) (sc := defScope s__law_picked) (by decide +kernel)) (fun _ _ _ _ _ => (pg_name (i := 5) sc__law_picked.nd rfl (by first | exact Or.inl rfl | exact Or.inr rfl))) (fun _ _ _ _ _ => (pts_one (pt_cmpR op_in_seq (pv 5) (pv 4) (by rfl)))) (fun _ _ _ _ _ => (pv 5))) po_none (po_some pe_int)))))))
      (pss_one (ps_ret (pv 2))))), ?_⟩
  dsimp only [cxOf, Cx.nox, List.map]
  refine pu_fn h (fun (g : Gr × List Str) ds hp => ?_)
  obtain ⟨a, b, rfl, ea, ib, hG, hl⟩ := hp
  obtain ⟨ds, ia, sa, al⟩ := gr_of ea
  have sb : sc b = false := by rcases ib with h | h <;> rw [h] <;> rfl
  simp [initA, sRet, dB1, fAll, fAny, dVal, dLc, lLc, iSq, dRd, dVar, dFz, sSeq, sNext, sAsg, sOwn, sIf, sFor, sApp, sRetN, sDrop, sPar, sPar3, dC, dV, dOp, fI, fI0, fEq, fNe, fEqD, fNeD, fIn, dIx, dIxR, dTest, dNot, dAnd, dOr, dYes, dIfE, dAndV, dOrV, dNotV, dNeg, dNil, dCons, dConsR, dStar, dLst, dTup, lLst, lVar, lSl, lList, lCat, dL, dRep, gdName, gdNil, gdCons, gdSq, gdTup, bnd, iRg, iEn, iZp, zLv, dSl, dNoPart, dPart, fSlL, fSlT, fSlS, fLen, fLenA, fLenT, fList, fTuple, dCall0, dCallX, dCallT, WF.wp, lcStep, wipeD, lcOk, isOwn, isOwL, Lv.ch, Lv.sh, sc_n, sc_b, sc_i, sc_s, sc_l, sc_t, scD_ss, scD_ii, scD_bb, eqS_ss, eqS_ii, eqS_bb, isNo, okU, thn_rt, thn_bk, thn_ct, DEnds.loop, sCont, sBreak, fInt1, fMax2, fMin2, fIsi, fIsi2, dSetS, sParN, lRev, dDraw, dNames, dPartT, fSortS, fSortD, fRepr, fInD, fNotT, dTru, fIsB, tru, dSame, dCallK, fInA, dRevT, fRevT, dCount, dCatT, notP_V, notP_R, notP_l, dIdx, sRaise, fSlQ, cutD, true_and, sTry, bDrop, bAsg, bIf, dIsH, dWhat, sPop, sIns, sParO, dLists, lCatL, dCallN, dCallNN, sParD, fMaxI, fSortI, sSeg, dStrewn, sSegB, dRepZ, mDictT, mDict, mVar, dGetI, dGet1, dGet2, dCallM, sMap, dMinIx, dCallP, dCallPX, lkAt, sTupO, sTupM, sPar3N, bAsgP, dCallPK, dCallPP, fSortQ, sTupO, sTupM, sTupE, dIsNoX, sSegL, sa, sb]
  rw [thn_nx]
  refine sSeq_rule (Ipick g a b g.2.length) (fun B hB _ _ _ => ?_) ?_
  · simp [initA, sRet, dB1, fAll, fAny, dVal, dLc, lLc, iSq, dRd, dVar, dFz, sSeq, sNext, sAsg, sOwn, sIf, sFor, sApp, sRetN, sDrop, sPar, sPar3, dC, dV, dOp, fI, fI0, fEq, fNe, fEqD, fNeD, fIn, dIx, dIxR, dTest, dNot, dAnd, dOr, dYes, dIfE, dAndV, dOrV, dNotV, dNeg, dNil, dCons, dConsR, dStar, dLst, dTup, lLst, lVar, lSl, lList, lCat, dL, dRep, gdName, gdNil, gdCons, gdSq, gdTup, bnd, iRg, iEn, iZp, zLv, dSl, dNoPart, dPart, fSlL, fSlT, fSlS, fLen, fLenA, fLenT, fList, fTuple, dCall0, dCallX, dCallT, WF.wp, lcStep, wipeD, lcOk, isOwn, isOwL, Lv.ch, Lv.sh, sc_n, sc_b, sc_i, sc_s, sc_l, sc_t, scD_ss, scD_ii, scD_bb, eqS_ss, eqS_ii, eqS_bb, isNo, okU, thn_rt, thn_bk, thn_ct, DEnds.loop, sCont, sBreak, fInt1, fMax2, fMin2, fIsi, fIsi2, dSetS, sParN, lRev, dDraw, dNames, dPartT, fSortS, fSortD, fRepr, fInD, fNotT, dTru, fIsB, tru, dSame, dCallK, fInA, dRevT, fRevT, dCount, dCatT, notP_V, notP_R, notP_l, dIdx, sRaise, fSlQ, cutD, true_and, sTry, bDrop, bAsg, bIf, dIsH, dWhat, sPop, sIns, sParO, dLists, lCatL, dCallN, dCallNN, sParD, fMaxI, fSortI, sSeg, dStrewn, sSegB, dRepZ, mDictT, mDict, mVar, dGetI, dGet1, dGet2, dCallM, sMap, dMinIx, dCallP, dCallPX, lkAt, sTupO, sTupM, sPar3N, bAsgP, dCallPK, dCallPP, fSortQ, sTupO, sTupM, sTupE, dIsNoX, sSegL]
    refine .inl ⟨_, ib, ?_⟩
    rw [List.length_map]
    refine ⟨by omega, Ipick g a b, ⟨_, _, rfl⟩, fun i x δ' ex hI => ?_, fun δ' hI => hB _ (by rw [rgD_len] at hI; exact hI)⟩
    obtain ⟨a3, a4, rfl⟩ := hI
    obtain ⟨rfl, il⟩ := rg_inv ex
    refine ⟨_, rfl, ?_⟩
    have pl := pickN_len g.1 g.2 i
    refine sSeq_rule (fun δ => δ = ⟨[.rd a, .rd b, .own ((pickN g.1 g.2 i).map .str), .dat (.int (i : Nat)), .dat (.list ((ripeG g.1 (pickN g.1 g.2 i)).map .str)), .no], 0⟩) (fun B' hB' _ _ _ => ?_) ?_
    · simp [initA, sRet, dB1, fAll, fAny, dVal, dLc, lLc, iSq, dRd, dVar, dFz, sSeq, sNext, sAsg, sOwn, sIf, sFor, sApp, sRetN, sDrop, sPar, sPar3, dC, dV, dOp, fI, fI0, fEq, fNe, fEqD, fNeD, fIn, dIx, dIxR, dTest, dNot, dAnd, dOr, dYes, dIfE, dAndV, dOrV, dNotV, dNeg, dNil, dCons, dConsR, dStar, dLst, dTup, lLst, lVar, lSl, lList, lCat, dL, dRep, gdName, gdNil, gdCons, gdSq, gdTup, bnd, iRg, iEn, iZp, zLv, dSl, dNoPart, dPart, fSlL, fSlT, fSlS, fLen, fLenA, fLenT, fList, fTuple, dCall0, dCallX, dCallT, WF.wp, lcStep, wipeD, lcOk, isOwn, isOwL, Lv.ch, Lv.sh, sc_n, sc_b, sc_i, sc_s, sc_l, sc_t, scD_ss, scD_ii, scD_bb, eqS_ss, eqS_ii, eqS_bb, isNo, okU, thn_rt, thn_bk, thn_ct, DEnds.loop, sCont, sBreak, fInt1, fMax2, fMin2, fIsi, fIsi2, dSetS, sParN, lRev, dDraw, dNames, dPartT, fSortS, fSortD, fRepr, fInD, fNotT, dTru, fIsB, tru, dSame, dCallK, fInA, dRevT, fRevT, dCount, dCatT, notP_V, notP_R, notP_l, dIdx, sRaise, fSlQ, cutD, true_and, sTry, bDrop, bAsg, bIf, dIsH, dWhat, sPop, sIns, sParO, dLists, lCatL, dCallN, dCallNN, sParD, fMaxI, fSortI, sSeg, dStrewn, sSegB, dRepZ, mDictT, mDict, mVar, dGetI, dGet1, dGet2, dCallM, sMap, dMinIx, dCallP, dCallPX, lkAt, sTupO, sTupM, sPar3N, bAsgP, dCallPK, dCallPP, fSortQ, sTupO, sTupM, sTupE, dIsNoX, sSegL]
      refine ⟨(g.1, pickN g.1 g.2 i), ⟨_, _, rfl, ea, by simp only [flat, flats_eq, List.map_map]; congr 1, hG⟩, ?_, fun _ _ z => z⟩
      rintro _ _ rfl
      exact hB' _ rfl
    · rintro _ rfl
      simp [initA, sRet, dB1, fAll, fAny, dVal, dLc, lLc, iSq, dRd, dVar, dFz, sSeq, sNext, sAsg, sOwn, sIf, sFor, sApp, sRetN, sDrop, sPar, sPar3, dC, dV, dOp, fI, fI0, fEq, fNe, fEqD, fNeD, fIn, dIx, dIxR, dTest, dNot, dAnd, dOr, dYes, dIfE, dAndV, dOrV, dNotV, dNeg, dNil, dCons, dConsR, dStar, dLst, dTup, lLst, lVar, lSl, lList, lCat, dL, dRep, gdName, gdNil, gdCons, gdSq, gdTup, bnd, iRg, iEn, iZp, zLv, dSl, dNoPart, dPart, fSlL, fSlT, fSlS, fLen, fLenA, fLenT, fList, fTuple, dCall0, dCallX, dCallT, WF.wp, lcStep, wipeD, lcOk, isOwn, isOwL, Lv.ch, Lv.sh, sc_n, sc_b, sc_i, sc_s, sc_l, sc_t, scD_ss, scD_ii, scD_bb, eqS_ss, eqS_ii, eqS_bb, isNo, okU, thn_rt, thn_bk, thn_ct, DEnds.loop, sCont, sBreak, fInt1, fMax2, fMin2, fIsi, fIsi2, dSetS, sParN, lRev, dDraw, dNames, dPartT, fSortS, fSortD, fRepr, fInD, fNotT, dTru, fIsB, tru, dSame, dCallK, fInA, dRevT, fRevT, dCount, dCatT, notP_V, notP_R, notP_l, dIdx, sRaise, fSlQ, cutD, true_and, sTry, bDrop, bAsg, bIf, dIsH, dWhat, sPop, sIns, sParO, dLists, lCatL, dCallN, dCallNN, sParD, fMaxI, fSortI, sSeg, dStrewn, sSegB, dRepZ, mDictT, mDict, mVar, dGetI, dGet1, dGet2, dCallM, sMap, dMinIx, dCallP, dCallPX, lkAt, sTupO, sTupM, sPar3N, bAsgP, dCallPK, dCallPP, fSortQ, sTupO, sTupM, sTupE, dIsNoX, sSegL]
      refine ⟨_, ib, lcGo_filter (al_map _ _) (fun f => decide (f ∈ ripeG g.1 (pickN g.1 g.2 i))) PyData.str (small hl) ?_ ?_⟩
      · have e1 : cutG ((g.2.filter fun f => decide (f ∈ ripeG g.1 (pickN g.1 g.2 i))).map PyData.str) none (some 1) = ((g.2.filter fun f => decide (f ∈ ripeG g.1 (pickN g.1 g.2 i))).take 1).map PyData.str := by rw [List.map_take]; exact cutG_to _ 1
        rw [e1]
        refine ⟨by rw [List.length_map, List.length_take, sizeLine_eq]; omega, .dat (.int (i : Nat)), .dat (.list ((ripeG g.1 (pickN g.1 g.2 i)).map .str)), ?_⟩
        rw [← List.map_append]; rfl
      · rintro _ z acc k' zm rfl la q1 q2
        simp [initA, sRet, dB1, fAll, fAny, dVal, dLc, lLc, iSq, dRd, dVar, dFz, sSeq, sNext, sAsg, sOwn, sIf, sFor, sApp, sRetN, sDrop, sPar, sPar3, dC, dV, dOp, fI, fI0, fEq, fNe, fEqD, fNeD, fIn, dIx, dIxR, dTest, dNot, dAnd, dOr, dYes, dIfE, dAndV, dOrV, dNotV, dNeg, dNil, dCons, dConsR, dStar, dLst, dTup, lLst, lVar, lSl, lList, lCat, dL, dRep, gdName, gdNil, gdCons, gdSq, gdTup, bnd, iRg, iEn, iZp, zLv, dSl, dNoPart, dPart, fSlL, fSlT, fSlS, fLen, fLenA, fLenT, fList, fTuple, dCall0, dCallX, dCallT, WF.wp, lcStep, wipeD, lcOk, isOwn, isOwL, Lv.ch, Lv.sh, sc_n, sc_b, sc_i, sc_s, sc_l, sc_t, scD_ss, scD_ii, scD_bb, eqS_ss, eqS_ii, eqS_bb, isNo, okU, thn_rt, thn_bk, thn_ct, DEnds.loop, sCont, sBreak, fInt1, fMax2, fMin2, fIsi, fIsi2, dSetS, sParN, lRev, dDraw, dNames, dPartT, fSortS, fSortD, fRepr, fInD, fNotT, dTru, fIsB, tru, dSame, dCallK, fInA, dRevT, fRevT, dCount, dCatT, notP_V, notP_R, notP_l, dIdx, sRaise, fSlQ, cutD, true_and, sTry, bDrop, bAsg, bIf, dIsH, dWhat, sPop, sIns, sParO, dLists, lCatL, dCallN, dCallNN, sParD, fMaxI, fSortI, sSeg, dStrewn, sSegB, dRepZ, mDictT, mDict, mVar, dGetI, dGet1, dGet2, dCallM, sMap, dMinIx, dCallP, dCallPX, lkAt, sTupO, sTupM, sPar3N, bAsgP, dCallPK, dCallPP, fSortQ, sTupO, sTupM, sTupE, dIsNoX, sSegL]
        refine ⟨_, .inl rfl, sc_strsM _, ?_⟩
        rw [inD_strs]
        by_cases c : z ∈ ripeG g.1 (pickN g.1 g.2 i)
        · rw [if_pos (by simp [c])]; exact ⟨la, q1 (by simp [c])⟩
        · rw [if_neg (by simp [c])]; exact q2 (by simp [c])
  · rintro _ ⟨a3, a4, rfl⟩
    simp [initA, sRet, dB1, fAll, fAny, dVal, dLc, lLc, iSq, dRd, dVar, dFz, sSeq, sNext, sAsg, sOwn, sIf, sFor, sApp, sRetN, sDrop, sPar, sPar3, dC, dV, dOp, fI, fI0, fEq, fNe, fEqD, fNeD, fIn, dIx, dIxR, dTest, dNot, dAnd, dOr, dYes, dIfE, dAndV, dOrV, dNotV, dNeg, dNil, dCons, dConsR, dStar, dLst, dTup, lLst, lVar, lSl, lList, lCat, dL, dRep, gdName, gdNil, gdCons, gdSq, gdTup, bnd, iRg, iEn, iZp, zLv, dSl, dNoPart, dPart, fSlL, fSlT, fSlS, fLen, fLenA, fLenT, fList, fTuple, dCall0, dCallX, dCallT, WF.wp, lcStep, wipeD, lcOk, isOwn, isOwL, Lv.ch, Lv.sh, sc_n, sc_b, sc_i, sc_s, sc_l, sc_t, scD_ss, scD_ii, scD_bb, eqS_ss, eqS_ii, eqS_bb, isNo, okU, thn_rt, thn_bk, thn_ct, DEnds.loop, sCont, sBreak, fInt1, fMax2, fMin2, fIsi, fIsi2, dSetS, sParN, lRev, dDraw, dNames, dPartT, fSortS, fSortD, fRepr, fInD, fNotT, dTru, fIsB, tru, dSame, dCallK, fInA, dRevT, fRevT, dCount, dCatT, notP_V, notP_R, notP_l, dIdx, sRaise, fSlQ, cutD, true_and, sTry, bDrop, bAsg, bIf, dIsH, dWhat, sPop, sIns, sParO, dLists, lCatL, dCallN, dCallNN, sParD, fMaxI, fSortI, sSeg, dStrewn, sSegB, dRepZ, mDictT, mDict, mVar, dGetI, dGet1, dGet2, dCallM, sMap, dMinIx, dCallP, dCallPX, lkAt, sTupO, sTupM, sPar3N, bAsgP, dCallPK, dCallPP, fSortQ, sTupO, sTupM, sTupE, dIsNoX, sSegL]
    rfl
end
theorem sc_fruits_of : FnScope ["rows", "fruit", "lots"] ["rows"] (defScope s_fruits_of) := ⟨rfl, rfl, rfl, by decide +kernel, rfl, by decide +kernel, by decide +kernel⟩
theorem sc_refuse_unknown : FnScope ["orchard", "fruit"] ["orchard", "fruit"] (defScope s_refuse_unknown) := ⟨rfl, rfl, rfl, by decide +kernel, rfl, by decide +kernel, by decide +kernel⟩
section
variable {P : Program} {w : World} {K : PySem.W.Frag} {mg : Str → Option Value} {base : Heap}
theorem ok_fruits_of (T : Txt K mg) : FnOk P w K mg base CX0 1 T.f_fruits_of T.fd_fruits_of ["rows"] (spF K [false] wf_fruitsB) := by
  refine T.F_fruits_of.ok sc_fruits_of (fun vs H Q E h => spF_len h) (fun cdv A outer s H vs Q E hr h => ?_)
  refine ⟨_, (pss_one (ps_ret (pe_lc (own := [("fruit", 1), ("lots", 2)]) (g := (gSq K 2 (gCons (gName 1) (gCons (gName 2) gNil)))) (tt := tYes) (te := (tVar 1)) (by rfl) sc_fruits_of.nd (pi_any (pv 0)) (blkOk_by (own := [("fruit", 1), ("lots", 2)]) (N := ["rows", "fruit", "lots"]) (sc := defScope s_fruits_of) (by decide +kernel)) (fun _ _ _ _ _ => (pg_sq (n := 2) rfl (pgs_cons (pg_name (i := 1) sc_fruits_of.nd rfl (by first | exact Or.inl rfl | exact Or.inr rfl)) (pgs_cons (pg_name (i := 2) sc_fruits_of.nd rfl (by first | exact Or.inl rfl | exact Or.inr rfl)) pgs_nil)))) (fun _ _ _ _ _ => pts_nil) (fun _ _ _ _ _ => (pv 1))))), ?_⟩
  try dsimp only [cxOf, Cx.nox, List.map]
  refine pu_fn h (fun (g : Gr) ds hp => ?_)
  obtain ⟨a, rfl, ea, hG⟩ := hp
  obtain ⟨ds, ia, sa, al⟩ := gr_of ea
  simp [initA, sRet, dB1, fAll, fAny, dVal, dLc, lLc, iSq, dRd, dVar, dFz, sSeq, sNext, sAsg, sOwn, sIf, sFor, sApp, sRetN, sDrop, sPar, sPar3, dC, dV, dOp, fI, fI0, fEq, fNe, fEqD, fNeD, fIn, dIx, dIxR, dTest, dNot, dAnd, dOr, dYes, dIfE, dAndV, dOrV, dNotV, dNeg, dNil, dCons, dConsR, dStar, dLst, dTup, lLst, lVar, lSl, lList, lCat, dL, dRep, gdName, gdNil, gdCons, gdSq, gdTup, bnd, iRg, iEn, iZp, zLv, dSl, dNoPart, dPart, fSlL, fSlT, fSlS, fLen, fLenA, fLenT, fList, fTuple, dCall0, dCallX, dCallT, WF.wp, lcStep, wipeD, lcOk, isOwn, isOwL, Lv.ch, Lv.sh, sc_n, sc_b, sc_i, sc_s, sc_l, sc_t, scD_ss, scD_ii, scD_bb, eqS_ss, eqS_ii, eqS_bb, isNo, okU, thn_rt, thn_bk, thn_ct, DEnds.loop, sCont, sBreak, fInt1, fMax2, fMin2, fIsi, fIsi2, dSetS, sParN, lRev, dDraw, dNames, dPartT, fSortS, fSortD, fRepr, fInD, fNotT, dTru, fIsB, tru, dSame, dCallK, fInA, dRevT, fRevT, dCount, dCatT, notP_V, notP_R, notP_l, dIdx, sRaise, fSlQ, cutD, true_and, sTry, bDrop, bAsg, bIf, dIsH, dWhat, sPop, sIns, sParO, dLists, lCatL, dCallN, dCallNN, sParD, fMaxI, fSortI, sSeg, dStrewn, sSegB, dRepZ, mDictT, mDict, mVar, dGetI, dGet1, dGet2, dCallM, sMap, dMinIx, dCallP, dCallPX, lkAt, sTupO, sTupM, sPar3N, bAsgP, dCallPK, dCallPP, fSortQ, sTupO, sTupM, sTupE, dIsNoX, sSegL, sa]
  refine ⟨_, ia, ?_⟩
  refine lcGo_map al (fun p => .str p.1) (small hG.1) (by show _ = _; rw [List.map_map]; rfl) ?_
  rintro d p acc k' hx hd la q
  obtain ⟨l, id, sd, el, sl⟩ := fruit_of' hd
  refine gdSq2 id rfl (bnd_rd sl) ?_
  simp [initA, sRet, dB1, fAll, fAny, dVal, dLc, lLc, iSq, dRd, dVar, dFz, sSeq, sNext, sAsg, sOwn, sIf, sFor, sApp, sRetN, sDrop, sPar, sPar3, dC, dV, dOp, fI, fI0, fEq, fNe, fEqD, fNeD, fIn, dIx, dIxR, dTest, dNot, dAnd, dOr, dYes, dIfE, dAndV, dOrV, dNotV, dNeg, dNil, dCons, dConsR, dStar, dLst, dTup, lLst, lVar, lSl, lList, lCat, dL, dRep, gdName, gdNil, gdCons, gdSq, gdTup, bnd, iRg, iEn, iZp, zLv, dSl, dNoPart, dPart, fSlL, fSlT, fSlS, fLen, fLenA, fLenT, fList, fTuple, dCall0, dCallX, dCallT, WF.wp, lcStep, wipeD, lcOk, isOwn, isOwL, Lv.ch, Lv.sh, sc_n, sc_b, sc_i, sc_s, sc_l, sc_t, scD_ss, scD_ii, scD_bb, eqS_ss, eqS_ii, eqS_bb, isNo, okU, thn_rt, thn_bk, thn_ct, DEnds.loop, sCont, sBreak, fInt1, fMax2, fMin2, fIsi, fIsi2, dSetS, sParN, lRev, dDraw, dNames, dPartT, fSortS, fSortD, fRepr, fInD, fNotT, dTru, fIsB, tru, dSame, dCallK, fInA, dRevT, fRevT, dCount, dCatT, notP_V, notP_R, notP_l, dIdx, sRaise, fSlQ, cutD, true_and, sTry, bDrop, bAsg, bIf, dIsH, dWhat, sPop, sIns, sParO, dLists, lCatL, dCallN, dCallNN, sParD, fMaxI, fSortI, sSeg, dStrewn, sSegB, dRepZ, mDictT, mDict, mVar, dGetI, dGet1, dGet2, dCallM, sMap, dMinIx, dCallP, dCallPX, lkAt, sTupO, sTupM, sPar3N, bAsgP, dCallPK, dCallPP, fSortQ, sTupO, sTupM, sTupE, dIsNoX, sSegL]
  exact ⟨la, q⟩
theorem ok_refuse_unknown (T : Txt K mg) : FnOk P w K mg base (L2.CX P w) 2 T.f_refuse_unknown T.fd_refuse_unknown ["orchard", "fruit"] (spF K [false, false] (wf_refuseX T.c_NoFruit)) := by
  refine T.F_refuse_unknown.okX sc_refuse_unknown (fun vs H Q E h => spF_len h) (fun cdv A outer s H vs Q E hr h => ?_)
  refine ⟨_, (pss_one (ps_if (pt_cmpR op_notIn_seq (pv 1) (pe_call (ok_fruits_of T) (hr.mono (by decide)) (by rfl) T.g_fruits_of T.F_fruits_of.kp T.b_fruits_of .nil pass0 (pa_cons (pv 0) pa_nil)) (by rfl)) (pss_one (ps_raiseWhat (nx := "NoFruit") rfl T.w_NoFruit hr (takes_of rfl rfl rfl rfl) (by exact (pa_cons (pv 1) pa_nil)) rfl)) pss_nil)), ?_⟩
  try dsimp only [cxOf, Cx.nox, List.map]
  refine pu_fn h (fun (g : Gr × Str) ds hp => ?_)
  obtain ⟨a, rfl, ea, hG⟩ := hp
  obtain ⟨ds, ia, sa, al⟩ := gr_of ea
  simp [initA, sRet, dB1, fAll, fAny, dVal, dLc, lLc, iSq, dRd, dVar, dFz, sSeq, sNext, sAsg, sOwn, sIf, sFor, sApp, sRetN, sDrop, sPar, sPar3, dC, dV, dOp, fI, fI0, fEq, fNe, fEqD, fNeD, fIn, dIx, dIxR, dTest, dNot, dAnd, dOr, dYes, dIfE, dAndV, dOrV, dNotV, dNeg, dNil, dCons, dConsR, dStar, dLst, dTup, lLst, lVar, lSl, lList, lCat, dL, dRep, gdName, gdNil, gdCons, gdSq, gdTup, bnd, iRg, iEn, iZp, zLv, dSl, dNoPart, dPart, fSlL, fSlT, fSlS, fLen, fLenA, fLenT, fList, fTuple, dCall0, dCallX, dCallT, WF.wp, lcStep, wipeD, lcOk, isOwn, isOwL, Lv.ch, Lv.sh, sc_n, sc_b, sc_i, sc_s, sc_l, sc_t, scD_ss, scD_ii, scD_bb, eqS_ss, eqS_ii, eqS_bb, isNo, okU, thn_rt, thn_bk, thn_ct, DEnds.loop, sCont, sBreak, fInt1, fMax2, fMin2, fIsi, fIsi2, dSetS, sParN, lRev, dDraw, dNames, dPartT, fSortS, fSortD, fRepr, fInD, fNotT, dTru, fIsB, tru, dSame, dCallK, fInA, dRevT, fRevT, dCount, dCatT, notP_V, notP_R, notP_l, dIdx, sRaise, fSlQ, cutD, true_and, sTry, bDrop, bAsg, bIf, dIsH, dWhat, sPop, sIns, sParO, dLists, lCatL, dCallN, dCallNN, sParD, fMaxI, fSortI, sSeg, dStrewn, sSegB, dRepZ, mDictT, mDict, mVar, dGetI, dGet1, dGet2, dCallM, sMap, dMinIx, dCallP, dCallPX, lkAt, sTupO, sTupM, sPar3N, bAsgP, dCallPK, dCallPP, fSortQ, sTupO, sTupM, sTupE, dIsNoX, sSegL, sa]
  refine ⟨g.1, ⟨a, rfl, ea, hG⟩, ?_, fun _ _ z => z⟩
  rintro _ _ rfl
  refine ⟨_, .inl rfl, sc_strsM _, ?_⟩
  rw [inD_strs]
  by_cases hm : g.2 ∈ g.1.map (·.1)
  · exact .inl ⟨decide_eq_true hm, hm, rfl⟩
  · exact .inr ⟨decide_eq_false hm, rfl, hm, rfl⟩
end
theorem sc_turn_of : FnScope ["orchard", "liking", "fruit", "row"] ["orchard", "liking", "fruit"] (defScope s_turn_of) := ⟨rfl, rfl, rfl, by decide +kernel, rfl, by decide +kernel, by decide +kernel⟩
section
variable {P : Program} {w : World} {K : PySem.W.Frag} {mg : Str → Option Value} {base : Heap}
theorem ok_turn_of (T : Txt K mg) (TB : LamX.TabB base mg T.cp_passed_by T.tp_passed_by) : FnOk P w K mg base (L2.CX P w) 8 T.f_turn_of T.fd_turn_of ["orchard", "liking", "fruit"] (spP K T.tp_passed_by qPB [true, false, false] (wf_turnof T.c_NoFruit)) := by
  refine T.F_turn_of.okX sc_turn_of (fun vs H Q E h => spP_len h) (fun cdv A outer s H vs Q E hr h => ?_)
  refine ⟨_, (pss_cons (ps_expr (pe_call (ok_refuse_unknown T) (hr.mono (by decide)) (by rfl) T.g_refuse_unknown T.F_refuse_unknown.kp T.b_refuse_unknown .nil (passes_call (takes_of rfl rfl rfl rfl) (fun _ _ _ _ h => h)) (pa_cons (pv 0) (pa_cons (pv 2) pa_nil))))
      (pss_cons (ps_set (i := 3) sc_turn_of.nd rfl (by first | exact Or.inl rfl | exact Or.inr rfl) (pe_call (ok_pick T TB) (hr.mono (by decide)) (by rfl) T.g_pick T.F_pick.kp T.b_pick .nil pass0 (pa_cons (pv 0) (pa_cons (pv 1) pa_nil))))
      (pss_one (ps_ret (pe_ifExp (pt_cmpR op_in_seq (pv 2) (pv 3) (by rfl)) (pe_op op_add (pe_idx (pv 3) (pa_cons (pv 2) pa_nil)) pe_int) pe_non))))), ?_⟩
  try dsimp only [cxOf, Cx.nox, List.map]
  refine pu_fnP h (fun (g : Gr × List Str × Str) ds hp => ?_)
  obtain ⟨G, lk, f⟩ := g
  obtain ⟨a, b, rfl, ea, ib, hG, gin, ll⟩ := hp
  simp only at ea ib hG gin ll
  obtain ⟨ds, ia, sa, al⟩ := gr_of ea
  have sb : sc b = false := by rcases ib with h | h <;> rw [h] <;> rfl
  refine sSeq_rule (fun δ => f ∈ G.map (·.1) ∧ δ = ⟨[.dat a, .rd b, .dat (.str f), .no], 0⟩) (fun B hB _ _ _ => ?_) ?_
  · simp [initA, sRet, dB1, fAll, fAny, dVal, dLc, lLc, iSq, dRd, dVar, dFz, sSeq, sNext, sAsg, sOwn, sIf, sFor, sApp, sRetN, sDrop, sPar, sPar3, dC, dV, dOp, fI, fI0, fEq, fNe, fEqD, fNeD, fIn, dIx, dIxR, dTest, dNot, dAnd, dOr, dYes, dIfE, dAndV, dOrV, dNotV, dNeg, dNil, dCons, dConsR, dStar, dLst, dTup, lLst, lVar, lSl, lList, lCat, dL, dRep, gdName, gdNil, gdCons, gdSq, gdTup, bnd, iRg, iEn, iZp, zLv, dSl, dNoPart, dPart, fSlL, fSlT, fSlS, fLen, fLenA, fLenT, fList, fTuple, dCall0, dCallX, dCallT, WF.wp, lcStep, wipeD, lcOk, isOwn, isOwL, Lv.ch, Lv.sh, sc_n, sc_b, sc_i, sc_s, sc_l, sc_t, scD_ss, scD_ii, scD_bb, eqS_ss, eqS_ii, eqS_bb, isNo, okU, thn_rt, thn_bk, thn_ct, DEnds.loop, sCont, sBreak, fInt1, fMax2, fMin2, fIsi, fIsi2, dSetS, sParN, lRev, dDraw, dNames, dPartT, fSortS, fSortD, fRepr, fInD, fNotT, dTru, fIsB, tru, dSame, dCallK, fInA, dRevT, fRevT, dCount, dCatT, notP_V, notP_R, notP_l, dIdx, sRaise, fSlQ, cutD, true_and, sTry, bDrop, bAsg, bIf, dIsH, dWhat, sPop, sIns, sParO, dLists, lCatL, dCallN, dCallNN, sParD, fMaxI, fSortI, sSeg, dStrewn, sSegB, dRepZ, mDictT, mDict, mVar, dGetI, dGet1, dGet2, dCallM, sMap, dMinIx, dCallP, dCallPX, lkAt, sTupO, sTupM, sPar3N, bAsgP, dCallPK, dCallPP, fSortQ, sTupO, sTupM, sTupE, dIsNoX, sSegL, sa, sb]
    refine ⟨(G, f), ⟨a, rfl, ea, hG⟩, fun d n' z => hB _ ⟨z.1, rfl⟩, fun C d z => z⟩
  rintro _ ⟨fk, rfl⟩
  refine sSeq_rule (fun δ => δ = ⟨[.dat a, .rd b, .dat (.str f), .dat (.list ((pickG G lk).map .str))], 0⟩) (fun B hB _ _ _ => ?_) ?_
  · simp [initA, sRet, dB1, fAll, fAny, dVal, dLc, lLc, iSq, dRd, dVar, dFz, sSeq, sNext, sAsg, sOwn, sIf, sFor, sApp, sRetN, sDrop, sPar, sPar3, dC, dV, dOp, fI, fI0, fEq, fNe, fEqD, fNeD, fIn, dIx, dIxR, dTest, dNot, dAnd, dOr, dYes, dIfE, dAndV, dOrV, dNotV, dNeg, dNil, dCons, dConsR, dStar, dLst, dTup, lLst, lVar, lSl, lList, lCat, dL, dRep, gdName, gdNil, gdCons, gdSq, gdTup, bnd, iRg, iEn, iZp, zLv, dSl, dNoPart, dPart, fSlL, fSlT, fSlS, fLen, fLenA, fLenT, fList, fTuple, dCall0, dCallX, dCallT, WF.wp, lcStep, wipeD, lcOk, isOwn, isOwL, Lv.ch, Lv.sh, sc_n, sc_b, sc_i, sc_s, sc_l, sc_t, scD_ss, scD_ii, scD_bb, eqS_ss, eqS_ii, eqS_bb, isNo, okU, thn_rt, thn_bk, thn_ct, DEnds.loop, sCont, sBreak, fInt1, fMax2, fMin2, fIsi, fIsi2, dSetS, sParN, lRev, dDraw, dNames, dPartT, fSortS, fSortD, fRepr, fInD, fNotT, dTru, fIsB, tru, dSame, dCallK, fInA, dRevT, fRevT, dCount, dCatT, notP_V, notP_R, notP_l, dIdx, sRaise, fSlQ, cutD, true_and, sTry, bDrop, bAsg, bIf, dIsH, dWhat, sPop, sIns, sParO, dLists, lCatL, dCallN, dCallNN, sParD, fMaxI, fSortI, sSeg, dStrewn, sSegB, dRepZ, mDictT, mDict, mVar, dGetI, dGet1, dGet2, dCallM, sMap, dMinIx, dCallP, dCallPX, lkAt, sTupO, sTupM, sPar3N, bAsgP, dCallPK, dCallPP, fSortQ, sTupO, sTupM, sTupE, dIsNoX, sSegL, sa, sb]
    refine ⟨(G, lk), ⟨_, _, rfl, ea, ib, hG, gin, ll⟩, ?_, fun _ _ z => z⟩
    rintro _ _ rfl
    exact hB _ rfl
  rintro _ rfl
  simp [initA, sRet, dB1, fAll, fAny, dVal, dLc, lLc, iSq, dRd, dVar, dFz, sSeq, sNext, sAsg, sOwn, sIf, sFor, sApp, sRetN, sDrop, sPar, sPar3, dC, dV, dOp, fI, fI0, fEq, fNe, fEqD, fNeD, fIn, dIx, dIxR, dTest, dNot, dAnd, dOr, dYes, dIfE, dAndV, dOrV, dNotV, dNeg, dNil, dCons, dConsR, dStar, dLst, dTup, lLst, lVar, lSl, lList, lCat, dL, dRep, gdName, gdNil, gdCons, gdSq, gdTup, bnd, iRg, iEn, iZp, zLv, dSl, dNoPart, dPart, fSlL, fSlT, fSlS, fLen, fLenA, fLenT, fList, fTuple, dCall0, dCallX, dCallT, WF.wp, lcStep, wipeD, lcOk, isOwn, isOwL, Lv.ch, Lv.sh, sc_n, sc_b, sc_i, sc_s, sc_l, sc_t, scD_ss, scD_ii, scD_bb, eqS_ss, eqS_ii, eqS_bb, isNo, okU, thn_rt, thn_bk, thn_ct, DEnds.loop, sCont, sBreak, fInt1, fMax2, fMin2, fIsi, fIsi2, dSetS, sParN, lRev, dDraw, dNames, dPartT, fSortS, fSortD, fRepr, fInD, fNotT, dTru, fIsB, tru, dSame, dCallK, fInA, dRevT, fRevT, dCount, dCatT, notP_V, notP_R, notP_l, dIdx, sRaise, fSlQ, cutD, true_and, sTry, bDrop, bAsg, bIf, dIsH, dWhat, sPop, sIns, sParO, dLists, lCatL, dCallN, dCallNN, sParD, fMaxI, fSortI, sSeg, dStrewn, sSegB, dRepZ, mDictT, mDict, mVar, dGetI, dGet1, dGet2, dCallM, sMap, dMinIx, dCallP, dCallPX, lkAt, sTupO, sTupM, sPar3N, bAsgP, dCallPK, dCallPP, fSortQ, sTupO, sTupM, sTupE, dIsNoX, sSegL]
  refine ⟨_, .inl rfl, sc_strsM _, ?_⟩
  rw [inD_strs]
  by_cases c : f ∈ pickG G lk
  · rw [if_pos (decide_eq_true c)]
    refine ⟨⟨_, .inl rfl⟩, _, .inl rfl, c, fk, ?_⟩
    show _ = natD (turnN G lk f)
    unfold turnN
    rw [if_pos c]; rfl
  · rw [if_neg (by simp [c])]
    refine ⟨fk, ?_⟩
    show _ = natD (turnN G lk f)
    unfold turnN
    rw [if_neg c]; rfl
end
theorem sc__law_turn : FnScope ["_law_orchards", "_law_likings", "_law_fruits", "error", "_law_caught", "_law_found"] ["_law_orchards", "_law_likings", "_law_fruits"] (defScope s__law_turn) := ⟨rfl, rfl, rfl, by decide +kernel, rfl, by decide +kernel, by decide +kernel⟩
section
variable {P : Program} {w : World} {K : PySem.W.Frag} {mg : Str → Option Value} {base : Heap}
theorem ok__law_turn (T : Txt K mg) (TB : LamX.TabB base mg T.cp_passed_by T.tp_passed_by) : FnOk P w K mg base CX0 11 T.f__law_turn T.fd__law_turn ["_law_orchards", "_law_likings", "_law_fruits"] (spP K T.tp_passed_by qPB [true, false, false] wf_turn12) := by
  refine T.F__law_turn.ok sc__law_turn (fun vs H Q E h => spP_len h) (fun cdv A outer s H vs Q E hr h => ?_)
  refine ⟨_, (pss_cons (ps_asg (pe_tupZ (pa_cons pe_non (pa_cons pe_non pa_nil))) (pg_tup (n := 2) rfl (pgs_cons (pg_name (i := 4) sc__law_turn.nd rfl (by first | exact Or.inl rfl | exact Or.inr rfl)) (pgs_cons (pg_name (i := 5) sc__law_turn.nd rfl (by first | exact Or.inl rfl | exact Or.inr rfl)) pgs_nil))))
      (pss_cons (ps_tryH (i := 3) (ct := 4) (tb := fun W => (tAsg (tCallS (spP K T.tp_passed_by qPB [true, false, false] (wf_turnof T.c_NoFruit)) (WE W) (tCons (tVar 0) (tCons (tVar 1) (tCons (tVar 2) tNil)))) (gName 5))) (cs := [.ref T.c_NoFruit, .ref T.c_NoRow]) rfl rfl sc__law_turn.nd rfl rfl rfl (by rw [sizeLine_eq]; simp) exmTup2 (fun a pn => (nm_cons rfl T.g_NoFruit (nm_cons rfl T.g_NoRow nm_nil))) (fun W pn xe tk _ => (pss_one (ps_set (i := 5) sc__law_turn.nd rfl (by first | exact Or.inl rfl | exact Or.inr rfl) (by exact (pe_callS (ok_turn_of T TB) (hr.mono (by decide)) rfl T.g_turn_of T.F_turn_of.kp T.b_turn_of (fun σ => passAt tk σ) (by exact (pa_cons (pv 0) (pa_cons (pv 1) (pa_cons (pv 2) pa_nil))))))))) (fun a pn => (pss_one (ps_set (i := 4) sc__law_turn.nd rfl (by first | exact Or.inl rfl | exact Or.inr rfl) (pv 3)))))
      (pss_cons (ps_if (pt_cmpR kk_isN (pv 4) pe_non (nomark _)) (pss_one (ps_ret (pv 5))) pss_nil)
      (pss_one (ps_ret (pe_ifExp (PW.pt (pw_and (pt_val (pe_callB call_isH (by rfl) T.m_isinstance (by decide +kernel) (pa_cons (pv 4) (pa_cons (pe_glob (v := .ref T.c_NoFruit) rfl T.g_NoFruit rfl) pa_nil)))) (pw_and1 (pt_val (pe_callB call_isH (by rfl) T.m_isinstance (by decide +kernel) (pa_cons (pv 4) (pa_cons (pe_bltn (v := .ty "LookupError") (by rfl) T.m_LookupError (by decide +kernel) rfl) pa_nil))))))) (pe_tupZ (pa_cons pe_str (pa_cons (pe_whatH (pv 4)) pa_nil))) pe_str)))))), ?_⟩
  try dsimp only [cxOf, Cx.nox, List.map]
  refine pu_fnP h (fun (g : Gr × List Str × Str) ds hp => ?_)
  obtain ⟨G, lk, f⟩ := g
  obtain ⟨a, b, rfl, ea, ib, ok, gin, ll⟩ := hp
  simp only at ea ib ok gin ll
  obtain ⟨_, _, sa, _⟩ := gr_of ea
  have sb : sc b = false := by rcases ib with h | h <;> rw [h] <;> rfl
  have exm : PySem.W.exmAny K (.ref T.c_NoFruit) [.ref T.c_NoFruit, .ref T.c_NoRow] = some true := by simp [PySem.W.exmAny, T.x_NoFruit_NoFruit, T.x_NoFruit_NoRow]
  have s2 : 2 ≤ sizeLine := by rw [sizeLine_eq]; decide
  simp [initA, sRet, dB1, fAll, fAny, dVal, dLc, lLc, iSq, dRd, dVar, dFz, sSeq, sNext, sAsg, sOwn, sIf, sFor, sApp, sRetN, sDrop, sPar, sPar3, dC, dV, dOp, fI, fI0, fEq, fNe, fEqD, fNeD, fIn, dIx, dIxR, dTest, dNot, dAnd, dOr, dYes, dIfE, dAndV, dOrV, dNotV, dNeg, dNil, dCons, dConsR, dStar, dLst, dTup, lLst, lVar, lSl, lList, lCat, dL, dRep, gdName, gdNil, gdCons, gdSq, gdTup, bnd, iRg, iEn, iZp, zLv, dSl, dNoPart, dPart, fSlL, fSlT, fSlS, fLen, fLenA, fLenT, fList, fTuple, dCall0, dCallX, dCallT, WF.wp, lcStep, wipeD, lcOk, isOwn, isOwL, Lv.ch, Lv.sh, sc_n, sc_b, sc_i, sc_s, sc_l, sc_t, scD_ss, scD_ii, scD_bb, eqS_ss, eqS_ii, eqS_bb, isNo, okU, thn_rt, thn_bk, thn_ct, DEnds.loop, sCont, sBreak, fInt1, fMax2, fMin2, fIsi, fIsi2, dSetS, sParN, lRev, dDraw, dNames, dPartT, fSortS, fSortD, fRepr, fInD, fNotT, dTru, fIsB, tru, dSame, dCallK, fInA, dRevT, fRevT, dCount, dCatT, notP_V, notP_R, notP_l, dIdx, sRaise, fSlQ, cutD, true_and, sTry, bDrop, bAsg, bIf, dIsH, dWhat, sPop, sIns, sParO, dLists, lCatL, dCallN, dCallNN, sParD, fMaxI, fSortI, sSeg, dStrewn, sSegB, dRepZ, mDictT, mDict, mVar, dGetI, dGet1, dGet2, dCallM, sMap, dMinIx, dCallP, dCallPX, lkAt, sTupO, sTupM, sPar3N, bAsgP, dCallPK, dCallPP, fSortQ, sTupO, sTupM, sTupE, dIsNoX, sSegL, sa, sb]
  refine ⟨s2, _, _, ⟨rfl, rfl⟩, _, _, rfl, rfl, ?_⟩
  rw [thn_nx]
  by_cases c : f ∈ G.map (·.1)
  · refine sSeq_rule (fun δ => δ = ⟨[.dat a, .rd b, .dat (.str f), .no, .dat .none, .dat (natD (turnN G lk f))], 0⟩) (fun B hB _ _ _ => ?_) ?_
    · simp [initA, sRet, dB1, fAll, fAny, dVal, dLc, lLc, iSq, dRd, dVar, dFz, sSeq, sNext, sAsg, sOwn, sIf, sFor, sApp, sRetN, sDrop, sPar, sPar3, dC, dV, dOp, fI, fI0, fEq, fNe, fEqD, fNeD, fIn, dIx, dIxR, dTest, dNot, dAnd, dOr, dYes, dIfE, dAndV, dOrV, dNotV, dNeg, dNil, dCons, dConsR, dStar, dLst, dTup, lLst, lVar, lSl, lList, lCat, dL, dRep, gdName, gdNil, gdCons, gdSq, gdTup, bnd, iRg, iEn, iZp, zLv, dSl, dNoPart, dPart, fSlL, fSlT, fSlS, fLen, fLenA, fLenT, fList, fTuple, dCall0, dCallX, dCallT, WF.wp, lcStep, wipeD, lcOk, isOwn, isOwL, Lv.ch, Lv.sh, sc_n, sc_b, sc_i, sc_s, sc_l, sc_t, scD_ss, scD_ii, scD_bb, eqS_ss, eqS_ii, eqS_bb, isNo, okU, thn_rt, thn_bk, thn_ct, DEnds.loop, sCont, sBreak, fInt1, fMax2, fMin2, fIsi, fIsi2, dSetS, sParN, lRev, dDraw, dNames, dPartT, fSortS, fSortD, fRepr, fInD, fNotT, dTru, fIsB, tru, dSame, dCallK, fInA, dRevT, fRevT, dCount, dCatT, notP_V, notP_R, notP_l, dIdx, sRaise, fSlQ, cutD, true_and, sTry, bDrop, bAsg, bIf, dIsH, dWhat, sPop, sIns, sParO, dLists, lCatL, dCallN, dCallNN, sParD, fMaxI, fSortI, sSeg, dStrewn, sSegB, dRepZ, mDictT, mDict, mVar, dGetI, dGet1, dGet2, dCallM, sMap, dMinIx, dCallP, dCallPX, lkAt, sTupO, sTupM, sPar3N, bAsgP, dCallPK, dCallPP, fSortQ, sTupO, sTupM, sTupE, dIsNoX, sSegL]
      refine ⟨(G, lk, f), ⟨a, b, rfl, ea, ib, ok, gin, ll⟩, fun d n z => ?_, ?_⟩
      · obtain ⟨_, rfl⟩ := z
        exact hB _ rfl
      · rintro C d ⟨_, z, _⟩
        exact absurd c z
    · rintro _ rfl
      simp [initA, sRet, dB1, fAll, fAny, dVal, dLc, lLc, iSq, dRd, dVar, dFz, sSeq, sNext, sAsg, sOwn, sIf, sFor, sApp, sRetN, sDrop, sPar, sPar3, dC, dV, dOp, fI, fI0, fEq, fNe, fEqD, fNeD, fIn, dIx, dIxR, dTest, dNot, dAnd, dOr, dYes, dIfE, dAndV, dOrV, dNotV, dNeg, dNil, dCons, dConsR, dStar, dLst, dTup, lLst, lVar, lSl, lList, lCat, dL, dRep, gdName, gdNil, gdCons, gdSq, gdTup, bnd, iRg, iEn, iZp, zLv, dSl, dNoPart, dPart, fSlL, fSlT, fSlS, fLen, fLenA, fLenT, fList, fTuple, dCall0, dCallX, dCallT, WF.wp, lcStep, wipeD, lcOk, isOwn, isOwL, Lv.ch, Lv.sh, sc_n, sc_b, sc_i, sc_s, sc_l, sc_t, scD_ss, scD_ii, scD_bb, eqS_ss, eqS_ii, eqS_bb, isNo, okU, thn_rt, thn_bk, thn_ct, DEnds.loop, sCont, sBreak, fInt1, fMax2, fMin2, fIsi, fIsi2, dSetS, sParN, lRev, dDraw, dNames, dPartT, fSortS, fSortD, fRepr, fInD, fNotT, dTru, fIsB, tru, dSame, dCallK, fInA, dRevT, fRevT, dCount, dCatT, notP_V, notP_R, notP_l, dIdx, sRaise, fSlQ, cutD, true_and, sTry, bDrop, bAsg, bIf, dIsH, dWhat, sPop, sIns, sParO, dLists, lCatL, dCallN, dCallNN, sParD, fMaxI, fSortI, sSeg, dStrewn, sSegB, dRepZ, mDictT, mDict, mVar, dGetI, dGet1, dGet2, dCallM, sMap, dMinIx, dCallP, dCallPX, lkAt, sTupO, sTupM, sPar3N, bAsgP, dCallPK, dCallPP, fSortQ, sTupO, sTupM, sTupE, dIsNoX, sSegL]
      show natD (turnN G lk f) = turn12 G lk f
      unfold turn12
      rw [if_pos c]
  · refine sSeq_rule (fun δ => ∃ a5 : AV, δ = ⟨[.dat a, .rd b, .dat (.str f), .no, .obj (.exc T.c_NoFruit (.str f)), a5], 0⟩) (fun B hB _ _ _ => ?_) ?_
    · simp [initA, sRet, dB1, fAll, fAny, dVal, dLc, lLc, iSq, dRd, dVar, dFz, sSeq, sNext, sAsg, sOwn, sIf, sFor, sApp, sRetN, sDrop, sPar, sPar3, dC, dV, dOp, fI, fI0, fEq, fNe, fEqD, fNeD, fIn, dIx, dIxR, dTest, dNot, dAnd, dOr, dYes, dIfE, dAndV, dOrV, dNotV, dNeg, dNil, dCons, dConsR, dStar, dLst, dTup, lLst, lVar, lSl, lList, lCat, dL, dRep, gdName, gdNil, gdCons, gdSq, gdTup, bnd, iRg, iEn, iZp, zLv, dSl, dNoPart, dPart, fSlL, fSlT, fSlS, fLen, fLenA, fLenT, fList, fTuple, dCall0, dCallX, dCallT, WF.wp, lcStep, wipeD, lcOk, isOwn, isOwL, Lv.ch, Lv.sh, sc_n, sc_b, sc_i, sc_s, sc_l, sc_t, scD_ss, scD_ii, scD_bb, eqS_ss, eqS_ii, eqS_bb, isNo, okU, thn_rt, thn_bk, thn_ct, DEnds.loop, sCont, sBreak, fInt1, fMax2, fMin2, fIsi, fIsi2, dSetS, sParN, lRev, dDraw, dNames, dPartT, fSortS, fSortD, fRepr, fInD, fNotT, dTru, fIsB, tru, dSame, dCallK, fInA, dRevT, fRevT, dCount, dCatT, notP_V, notP_R, notP_l, dIdx, sRaise, fSlQ, cutD, true_and, sTry, bDrop, bAsg, bIf, dIsH, dWhat, sPop, sIns, sParO, dLists, lCatL, dCallN, dCallNN, sParD, fMaxI, fSortI, sSeg, dStrewn, sSegB, dRepZ, mDictT, mDict, mVar, dGetI, dGet1, dGet2, dCallM, sMap, dMinIx, dCallP, dCallPX, lkAt, sTupO, sTupM, sPar3N, bAsgP, dCallPK, dCallPP, fSortQ, sTupO, sTupM, sTupE, dIsNoX, sSegL]
      refine ⟨(G, lk, f), ⟨a, b, rfl, ea, ib, ok, gin, ll⟩, fun d n z => absurd z.1 c, ?_⟩
      rintro C d ⟨rfl, _, rfl⟩
      exact ⟨exm, hB _ ⟨_, rfl⟩⟩
    · rintro _ ⟨a5, rfl⟩
      simp [initA, sRet, dB1, fAll, fAny, dVal, dLc, lLc, iSq, dRd, dVar, dFz, sSeq, sNext, sAsg, sOwn, sIf, sFor, sApp, sRetN, sDrop, sPar, sPar3, dC, dV, dOp, fI, fI0, fEq, fNe, fEqD, fNeD, fIn, dIx, dIxR, dTest, dNot, dAnd, dOr, dYes, dIfE, dAndV, dOrV, dNotV, dNeg, dNil, dCons, dConsR, dStar, dLst, dTup, lLst, lVar, lSl, lList, lCat, dL, dRep, gdName, gdNil, gdCons, gdSq, gdTup, bnd, iRg, iEn, iZp, zLv, dSl, dNoPart, dPart, fSlL, fSlT, fSlS, fLen, fLenA, fLenT, fList, fTuple, dCall0, dCallX, dCallT, WF.wp, lcStep, wipeD, lcOk, isOwn, isOwL, Lv.ch, Lv.sh, sc_n, sc_b, sc_i, sc_s, sc_l, sc_t, scD_ss, scD_ii, scD_bb, eqS_ss, eqS_ii, eqS_bb, isNo, okU, thn_rt, thn_bk, thn_ct, DEnds.loop, sCont, sBreak, fInt1, fMax2, fMin2, fIsi, fIsi2, dSetS, sParN, lRev, dDraw, dNames, dPartT, fSortS, fSortD, fRepr, fInD, fNotT, dTru, fIsB, tru, dSame, dCallK, fInA, dRevT, fRevT, dCount, dCatT, notP_V, notP_R, notP_l, dIdx, sRaise, fSlQ, cutD, true_and, sTry, bDrop, bAsg, bIf, dIsH, dWhat, sPop, sIns, sParO, dLists, lCatL, dCallN, dCallNN, sParD, fMaxI, fSortI, sSeg, dStrewn, sSegB, dRepZ, mDictT, mDict, mVar, dGetI, dGet1, dGet2, dCallM, sMap, dMinIx, dCallP, dCallPX, lkAt, sTupO, sTupM, sPar3N, bAsgP, dCallPK, dCallPP, fSortQ, sTupO, sTupM, sTupE, dIsNoX, sSegL]
      rw [thn_nx]
      simp [initA, sRet, dB1, fAll, fAny, dVal, dLc, lLc, iSq, dRd, dVar, dFz, sSeq, sNext, sAsg, sOwn, sIf, sFor, sApp, sRetN, sDrop, sPar, sPar3, dC, dV, dOp, fI, fI0, fEq, fNe, fEqD, fNeD, fIn, dIx, dIxR, dTest, dNot, dAnd, dOr, dYes, dIfE, dAndV, dOrV, dNotV, dNeg, dNil, dCons, dConsR, dStar, dLst, dTup, lLst, lVar, lSl, lList, lCat, dL, dRep, gdName, gdNil, gdCons, gdSq, gdTup, bnd, iRg, iEn, iZp, zLv, dSl, dNoPart, dPart, fSlL, fSlT, fSlS, fLen, fLenA, fLenT, fList, fTuple, dCall0, dCallX, dCallT, WF.wp, lcStep, wipeD, lcOk, isOwn, isOwL, Lv.ch, Lv.sh, sc_n, sc_b, sc_i, sc_s, sc_l, sc_t, scD_ss, scD_ii, scD_bb, eqS_ss, eqS_ii, eqS_bb, isNo, okU, thn_rt, thn_bk, thn_ct, DEnds.loop, sCont, sBreak, fInt1, fMax2, fMin2, fIsi, fIsi2, dSetS, sParN, lRev, dDraw, dNames, dPartT, fSortS, fSortD, fRepr, fInD, fNotT, dTru, fIsB, tru, dSame, dCallK, fInA, dRevT, fRevT, dCount, dCatT, notP_V, notP_R, notP_l, dIdx, sRaise, fSlQ, cutD, true_and, sTry, bDrop, bAsg, bIf, dIsH, dWhat, sPop, sIns, sParO, dLists, lCatL, dCallN, dCallNN, sParD, fMaxI, fSortI, sSeg, dStrewn, sSegB, dRepZ, mDictT, mDict, mVar, dGetI, dGet1, dGet2, dCallM, sMap, dMinIx, dCallP, dCallPX, lkAt, sTupO, sTupM, sPar3N, bAsgP, dCallPK, dCallPP, fSortQ, sTupO, sTupM, sTupE, dIsNoX, sSegL]
      refine ⟨T.is_NoFruit, _, .own _, .inr ⟨T.ki_NoFruit_NoFruit, T.is_NoFruit, _, .ty _, .inr ⟨T.kt_NoFruit_LookupError, ?_⟩⟩⟩
      refine ⟨_, _, ⟨rfl, rfl⟩, T.is_NoFruit, T.w_NoFruit.noN, s2, ?_⟩
      show _ = turn12 G lk f
      unfold turn12
      rw [if_neg c]
end
section
variable {K : PySem.W.Frag} {E : XK}
instance {m : Nat} {ta tb : TE} {wa wb : TRd} [pa : PuR K E ta wa] [pb : PuR K E tb wb] : PuE K E (tCall (sp__law_same K m) [] E0 (tCons ta (tCons tb tNil))) (dSame m wa wb) where
  mono h := pa.mono fun _ _ _ => pb.mono fun _ _ _ ⟨a, b, q⟩ => ⟨a, b, h _ _ q⟩
  run hE r q := bin2 (ta := ta) (tb := tb) hE r q fun l x m' y δ2 v u hd2 H2 k r2 d1 d2 ⟨e, ⟨j, ej, dp⟩, qq⟩ => by
    subst e ej
    exact ⟨v, u, x, rfl, Dp.same nt_in (d1.nt r2.bs), Dp.same nt_in (d2.nt r2.bs), dp, fun H' sH => qq _ _ _ (k.trans (.of_same sH)) (r2.same sH) (.bl _)⟩
theorem args_rev2 {Hv Hn : Hp} {a b : Bool} {zs : List V} {ds : List PyData} (h : ArgsV K Hv Hn [b, a] zs ds) : ArgsV K Hv Hn [a, b] zs.reverse ds.reverse := by
  rcases zs with _ | ⟨z1, _ | ⟨z2, _ | ⟨z3, zs⟩⟩⟩ <;> rcases ds with _ | ⟨d1, _ | ⟨d2, _ | ⟨d3, ds⟩⟩⟩ <;> first
    | exact ⟨h.2.1, h.1, trivial⟩
    | exact absurd h (by simp [ArgsV])
instance {a b : Bool} {s : WF} {tk : TA} {w : TDa} [p : PuA K E [b, a] tk w] : PuE K E (tCallK (spF K [a, b] s) gKbV E0 tNil tk) (dCallK s w) where
  mono h := p.mono fun _ _ q => WF.mono (fun _ _ q => h _ _ q) (fun _ _ z => z) q
  run hE r q := p.run hE r (p.mono (fun ds δ1 q vs hd1 H1 k1 r1 d1 => by
    show spF K [a, b] s (gKbV [] vs) H1 _ _
    exact call_run k1 r1 (args_rev2 d1) q fun _ _ z => z.elim) q)
end
section
variable {K : PySem.W.Frag} {E : XK}
instance {m : Nat} {t : TE} {w : TRd} [p : PuR K E t w] : PuE K E (tCall (sp__law_lists K m) [] E0 (tCons t tNil)) (dLists m w) where
  mono h := p.mono fun _ _ _ ⟨a, q⟩ => ⟨a, h _ _ q⟩
  run hE r q := un1 (t := t) hE r q fun l x δ1 v hd1 H1 k1 r1 d1 ⟨⟨k, em, dp⟩, qq⟩ => by
    subst em
    refine ⟨v, x, rfl, Dp.same nt_in (d1.nt r1.bs), dp, fun u H' sH du => qq u hd1 H' (k1.trans (.of_same sH)) (r1.same sH) (Dz.same (fun b o e => ?_) du)⟩
    obtain ⟨g1, g2⟩ := news_some e
    obtain ⟨f1, f2, f3⟩ := r1.fresh g1
    rw [vis_new f1 f2]; exact g2
end
section
variable {K : PySem.W.Frag} {E : XK}
instance {P : Addr} {q : Str} {a b : Bool} {s : WF} {tk : TA} {w : TDa} [p : PuA K E [b, a] tk w] : PuE K E (tCallK (spP K P q [a, b] s) gKbV E0 tNil tk) (dCallPK P q s w) where
  mono h := fun ⟨e, z⟩ => ⟨e, p.mono (fun _ _ z => WF.mono (fun _ _ z => h _ _ z) (fun _ _ z => z) z) z⟩
  run hE r := fun ⟨hp, z⟩ => p.run hE r (p.mono (fun ds δ1 z vs hd1 H1 k1 r1 d1 => by
    show spP K P q [a, b] s (gKbV [] vs) H1 _ _
    exact call_runP hp k1 r1 (args_rev2' d1) z fun _ _ z => z.elim) z)
theorem args_to {Hv Hn : Hp} {a b c : Bool} {zs : List V} {ds : List PyData} (h : ArgsV K Hv Hn [c, a, b] zs ds) : ArgsV K Hv Hn [a, b, c] (gKpV_turn_of [] zs) (gKpD_turn_of ds) := by
  rcases zs with _ | ⟨z1, _ | ⟨z2, _ | ⟨z3, _ | ⟨z4, zs⟩⟩⟩⟩ <;> rcases ds with _ | ⟨d1, _ | ⟨d2, _ | ⟨d3, _ | ⟨d4, ds⟩⟩⟩⟩ <;> first
    | exact ⟨h.2.1, h.2.2.1, h.1, trivial⟩
    | exact absurd h (by simp [ArgsV])
instance {P : Addr} {q : Str} {a b c : Bool} {s : WF} {tk : TA} {w : TDa} [p : PuA K E [c, a, b] tk w] : PuE K E (tCallK (spP K P q [a, b, c] s) gKpV_turn_of E0 tNil tk) (dCallPP P q gKpD_turn_of s w) where
  mono h := fun ⟨e, z⟩ => ⟨e, p.mono (fun _ _ z => WF.mono (fun _ _ z => h _ _ z) (fun _ _ z => z) z) z⟩
  run hE r := fun ⟨hp, z⟩ => p.run hE r (p.mono (fun ds δ1 z vs hd1 H1 k1 r1 d1 => by
    show spP K P q [a, b, c] s (gKpV_turn_of [] vs) H1 _ _
    exact call_runP hp k1 r1 (args_to d1) z fun _ _ z => z.elim) z)
instance (priority := 3000) {P : Addr} {q : Str} {i f o : Nat} {s1 s2 : WF} {ta1 ta2 : TA} {wa1 wa2 : TDa} {tc : TT} {wc : TDt} {tr tu : TS} {u : TDs} {z : Str} [p1 : PuA K E [false, false] ta1 wa1] [p2 : PuA K E [false, false] ta2 wa2] [p4 : PuT K E tc wc] [p5 : PuS K E tu u] :
    PuS K E (tSeq (tAsg (tLst (tCons (tCall (spP K P q [false, false] s1) [] E0 ta1) (tCons (tCallK (spP K P q [false, false] s2) gKbV E0 tNil ta2) tNil))) (gName i)) (tSeq (tIfS tc tr tNext)
      (tSeq (tFor (iAny K (tOp (rIx K) (tVar i) (tC (.int 0)))) (gTup K 2 (gCons (gName f) (gCons (gName o) gNil))) (tDrop (tBM K "list" rAppend (tVar o) (tCons (tC (.str z)) tNil))))
      (tSeq (tDrop (tBM0 K "list" rReverse (tOp (rIx K) (tVar i) (tC (.int 1))))) tu))))
      (sSegL P q i f o s1 s2 wa1 wa2 wc u) := segL_any (fun _ _ => rfl) p1 p2 p4 p5
end
theorem sc__law_passed : FnScope ["_law_orchards", "_law_row", "_law_found", "_law_k", "_law_fruits", "_law_other"] ["_law_orchards", "_law_row"] (defScope s__law_passed) := ⟨rfl, rfl, rfl, by decide +kernel, rfl, by decide +kernel, by decide +kernel⟩
section
variable {P : Program} {w : World} {K : PySem.W.Frag} {mg : Str → Option Value} {base : Heap}
def Ip12 (a : PyData) (G : Gr) (row : List Str) (i : Nat) (δ : DS) : Prop := ∃ a3 a4 : AV, δ = ⟨[.rd a, .rd (.list (row.map .str)), .own (((passG G row).take i).map psD), a3, a4, .no], 0⟩
theorem ok__law_passed (T : Txt K mg) : FnOk P w K mg base CX0 5 T.f__law_passed T.fd__law_passed ["_law_orchards", "_law_row"] (spF K [false, false] wf_lpassed12) := by
  refine T.F__law_passed.ok sc__law_passed (fun vs H Q E h => spF_len h) (fun cdv A outer s H vs Q E hr h => ?_)
  refine ⟨_, (pss_cons (ps_set (i := 2) sc__law_passed.nd rfl (by first | exact Or.inl rfl | exact Or.inr rfl) (pe_lst pa_nil))
      (pss_cons (ps_for PassesOwn.never rfl (pi_enum (by rfl) T.m_enumerate (pa_cons (pv 1) pa_nil)) (pg_tup (n := 2) rfl (pgs_cons (pg_name (i := 3) sc__law_passed.nd rfl (by first | exact Or.inl rfl | exact Or.inr rfl)) (pgs_cons (pg_name (i := 4) sc__law_passed.nd rfl (by first | exact Or.inl rfl | exact Or.inr rfl)) pgs_nil)))
      (pss_one (ps_expr (pe_bm PySem.F.plainAttrs_list PySem.F.slot_list_append PySem.F.type_list_append mt_append (pv 2) (pa_cons (pe_tupZ (pa_cons (pv 4) (pa_cons (pe_lc (own := [("_law_other", 5)]) (g := (gName 5)) (tt := (tTest (tOp rNe (tVar 5) (tVar 4)))) (te := (tVar 5)) (by rfl) sc__law_passed.nd (pi_any (pe_call (ok__law_ripe T) (hr.mono (by decide)) (by rfl) T.g__law_ripe T.F__law_ripe.kp T.b__law_ripe .nil pass0 (pa_cons (pv 0) (pa_cons (pe_slice sl_list (pv 1) po_none (po_some (pv 3))) pa_nil)))) (blkOk_by (own := [("_law_other", 5)]) (N := ["_law_orchards", "_law_row", "_law_found", "_law_k", "_law_fruits", "_law_other"]) (sc := defScope s__law_passed) (by decide +kernel)) (fun _ _ _ _ _ => (pg_name (i := 5) sc__law_passed.nd rfl (by first | exact Or.inl rfl | exact Or.inr rfl))) (fun _ _ _ _ _ => (pts_one (pt_cmpR op_ne (pv 5) (pv 4) (nomark _)))) (fun _ _ _ _ _ => (pv 5))) pa_nil))) pa_nil)))))
      (pss_one (ps_ret (pv 2))))), ?_⟩
  try dsimp only [cxOf, Cx.nox, List.map]
  refine pu_fn h (fun (g : Gr × List Str) ds hp => ?_)
  obtain ⟨G, row⟩ := g
  obtain ⟨a, rfl, ea, ok, lr⟩ := hp
  simp only at ea ok lr
  obtain ⟨_, _, sa, _⟩ := gr_of ea
  have sz : 200000 ≤ sizeLine := by rw [sizeLine_eq]; decide
  have pl := passG_len G row
  refine sSeq_rule (fun δ => δ = ⟨[.rd a, .rd (.list (row.map .str)), .own [], .no, .no, .no], 0⟩) (fun B hB _ _ _ => ?_) ?_
  · simp [initA, sRet, dB1, fAll, fAny, dVal, dLc, lLc, iSq, dRd, dVar, dFz, sSeq, sNext, sAsg, sOwn, sIf, sFor, sApp, sRetN, sDrop, sPar, sPar3, dC, dV, dOp, fI, fI0, fEq, fNe, fEqD, fNeD, fIn, dIx, dIxR, dTest, dNot, dAnd, dOr, dYes, dIfE, dAndV, dOrV, dNotV, dNeg, dNil, dCons, dConsR, dStar, dLst, dTup, lLst, lVar, lSl, lList, lCat, dL, dRep, gdName, gdNil, gdCons, gdSq, gdTup, bnd, iRg, iEn, iZp, zLv, dSl, dNoPart, dPart, fSlL, fSlT, fSlS, fLen, fLenA, fLenT, fList, fTuple, dCall0, dCallX, dCallT, WF.wp, lcStep, wipeD, lcOk, isOwn, isOwL, Lv.ch, Lv.sh, sc_n, sc_b, sc_i, sc_s, sc_l, sc_t, scD_ss, scD_ii, scD_bb, eqS_ss, eqS_ii, eqS_bb, isNo, okU, thn_rt, thn_bk, thn_ct, DEnds.loop, sCont, sBreak, fInt1, fMax2, fMin2, fIsi, fIsi2, dSetS, sParN, lRev, dDraw, dNames, dPartT, fSortS, fSortD, fRepr, fInD, fNotT, dTru, fIsB, tru, dSame, dCallK, fInA, dRevT, fRevT, dCount, dCatT, notP_V, notP_R, notP_l, dIdx, sRaise, fSlQ, cutD, true_and, sTry, bDrop, bAsg, bIf, dIsH, dWhat, sPop, sIns, sParO, dLists, lCatL, dCallN, dCallNN, sParD, fMaxI, fSortI, sSeg, dStrewn, sSegB, dRepZ, mDictT, mDict, mVar, dGetI, dGet1, dGet2, dCallM, sMap, dMinIx, dCallP, dCallPX, lkAt, sTupO, sTupM, sPar3N, bAsgP, dCallPK, dCallPP, fSortQ, sTupO, sTupM, sTupE, dIsNoX, sSegL, sa]
    exact hB _ rfl
  rintro _ rfl
  refine sSeq_rule (Ip12 a G row row.length) (fun B hB _ _ _ => ?_) ?_
  · simp [initA, sRet, dB1, fAll, fAny, dVal, dLc, lLc, iSq, dRd, dVar, dFz, sSeq, sNext, sAsg, sOwn, sIf, sFor, sApp, sRetN, sDrop, sPar, sPar3, dC, dV, dOp, fI, fI0, fEq, fNe, fEqD, fNeD, fIn, dIx, dIxR, dTest, dNot, dAnd, dOr, dYes, dIfE, dAndV, dOrV, dNotV, dNeg, dNil, dCons, dConsR, dStar, dLst, dTup, lLst, lVar, lSl, lList, lCat, dL, dRep, gdName, gdNil, gdCons, gdSq, gdTup, bnd, iRg, iEn, iZp, zLv, dSl, dNoPart, dPart, fSlL, fSlT, fSlS, fLen, fLenA, fLenT, fList, fTuple, dCall0, dCallX, dCallT, WF.wp, lcStep, wipeD, lcOk, isOwn, isOwL, Lv.ch, Lv.sh, sc_n, sc_b, sc_i, sc_s, sc_l, sc_t, scD_ss, scD_ii, scD_bb, eqS_ss, eqS_ii, eqS_bb, isNo, okU, thn_rt, thn_bk, thn_ct, DEnds.loop, sCont, sBreak, fInt1, fMax2, fMin2, fIsi, fIsi2, dSetS, sParN, lRev, dDraw, dNames, dPartT, fSortS, fSortD, fRepr, fInD, fNotT, dTru, fIsB, tru, dSame, dCallK, fInA, dRevT, fRevT, dCount, dCatT, notP_V, notP_R, notP_l, dIdx, sRaise, fSlQ, cutD, true_and, sTry, bDrop, bAsg, bIf, dIsH, dWhat, sPop, sIns, sParO, dLists, lCatL, dCallN, dCallNN, sParD, fMaxI, fSortI, sSeg, dStrewn, sSegB, dRepZ, mDictT, mDict, mVar, dGetI, dGet1, dGet2, dCallM, sMap, dMinIx, dCallP, dCallPX, lkAt, sTupO, sTupM, sPar3N, bAsgP, dCallPK, dCallPP, fSortQ, sTupO, sTupM, sTupE, dIsNoX, sSegL]
    refine ⟨Ip12 a G row, ⟨_, _, rfl⟩, fun i x δ' ex hI => ?_, fun δ' hI => hB _ (by rw [enD_len, List.length_map] at hI; exact hI)⟩
    obtain ⟨a3, a4, rfl⟩ := hI
    obtain ⟨d, e1, rfl⟩ := enD_inv ex
    obtain ⟨f, e2, rfl⟩ := strD_inv e1
    have il := (List.getElem?_eq_some_iff.mp e2).1
    refine gdTup2 rfl rfl ?_
    simp [initA, sRet, dB1, fAll, fAny, dVal, dLc, lLc, iSq, dRd, dVar, dFz, sSeq, sNext, sAsg, sOwn, sIf, sFor, sApp, sRetN, sDrop, sPar, sPar3, dC, dV, dOp, fI, fI0, fEq, fNe, fEqD, fNeD, fIn, dIx, dIxR, dTest, dNot, dAnd, dOr, dYes, dIfE, dAndV, dOrV, dNotV, dNeg, dNil, dCons, dConsR, dStar, dLst, dTup, lLst, lVar, lSl, lList, lCat, dL, dRep, gdName, gdNil, gdCons, gdSq, gdTup, bnd, iRg, iEn, iZp, zLv, dSl, dNoPart, dPart, fSlL, fSlT, fSlS, fLen, fLenA, fLenT, fList, fTuple, dCall0, dCallX, dCallT, WF.wp, lcStep, wipeD, lcOk, isOwn, isOwL, Lv.ch, Lv.sh, sc_n, sc_b, sc_i, sc_s, sc_l, sc_t, scD_ss, scD_ii, scD_bb, eqS_ss, eqS_ii, eqS_bb, isNo, okU, thn_rt, thn_bk, thn_ct, DEnds.loop, sCont, sBreak, fInt1, fMax2, fMin2, fIsi, fIsi2, dSetS, sParN, lRev, dDraw, dNames, dPartT, fSortS, fSortD, fRepr, fInD, fNotT, dTru, fIsB, tru, dSame, dCallK, fInA, dRevT, fRevT, dCount, dCatT, notP_V, notP_R, notP_l, dIdx, sRaise, fSlQ, cutD, true_and, sTry, bDrop, bAsg, bIf, dIsH, dWhat, sPop, sIns, sParO, dLists, lCatL, dCallN, dCallNN, sParD, fMaxI, fSortI, sSeg, dStrewn, sSegB, dRepZ, mDictT, mDict, mVar, dGetI, dGet1, dGet2, dCallM, sMap, dMinIx, dCallP, dCallPX, lkAt, sTupO, sTupM, sPar3N, bAsgP, dCallPK, dCallPP, fSortQ, sTupO, sTupM, sTupE, dIsNoX, sSegL]
    rw [cutG_to, ← List.map_take]
    refine ⟨fun d hd => ?_, (G, row.take i), ⟨_, _, rfl, ea, by simp only [flat, flats_eq, List.map_map]; congr 1, ok⟩, ?_, fun _ _ z => z⟩
    · obtain ⟨z, _, rfl⟩ := List.mem_map.mp hd; rfl
    rintro _ _ rfl
    have rl : (ripeG G (row.take i)).length ≤ 1000 := by
      unfold ripeG
      rw [List.length_map]
      exact Nat.le_trans (List.length_filter_le _ _) ok.1
    refine ⟨_, .inl rfl, lcGo_filter (al_map _ _) (fun z => !decide (z = f)) PyData.str (small rl) ?_ ?_⟩
    · refine ⟨by omega, by omega, .dat (.int (i : Nat)), .dat (.str f), ?_⟩
      rw [List.take_add_one, passG_at e2, List.map_append, List.map_take]
      rfl
    · rintro _ z acc k' zm rfl la q1 q2
      simp [initA, sRet, dB1, fAll, fAny, dVal, dLc, lLc, iSq, dRd, dVar, dFz, sSeq, sNext, sAsg, sOwn, sIf, sFor, sApp, sRetN, sDrop, sPar, sPar3, dC, dV, dOp, fI, fI0, fEq, fNe, fEqD, fNeD, fIn, dIx, dIxR, dTest, dNot, dAnd, dOr, dYes, dIfE, dAndV, dOrV, dNotV, dNeg, dNil, dCons, dConsR, dStar, dLst, dTup, lLst, lVar, lSl, lList, lCat, dL, dRep, gdName, gdNil, gdCons, gdSq, gdTup, bnd, iRg, iEn, iZp, zLv, dSl, dNoPart, dPart, fSlL, fSlT, fSlS, fLen, fLenA, fLenT, fList, fTuple, dCall0, dCallX, dCallT, WF.wp, lcStep, wipeD, lcOk, isOwn, isOwL, Lv.ch, Lv.sh, sc_n, sc_b, sc_i, sc_s, sc_l, sc_t, scD_ss, scD_ii, scD_bb, eqS_ss, eqS_ii, eqS_bb, isNo, okU, thn_rt, thn_bk, thn_ct, DEnds.loop, sCont, sBreak, fInt1, fMax2, fMin2, fIsi, fIsi2, dSetS, sParN, lRev, dDraw, dNames, dPartT, fSortS, fSortD, fRepr, fInD, fNotT, dTru, fIsB, tru, dSame, dCallK, fInA, dRevT, fRevT, dCount, dCatT, notP_V, notP_R, notP_l, dIdx, sRaise, fSlQ, cutD, true_and, sTry, bDrop, bAsg, bIf, dIsH, dWhat, sPop, sIns, sParO, dLists, lCatL, dCallN, dCallNN, sParD, fMaxI, fSortI, sSeg, dStrewn, sSegB, dRepZ, mDictT, mDict, mVar, dGetI, dGet1, dGet2, dCallM, sMap, dMinIx, dCallP, dCallPX, lkAt, sTupO, sTupM, sPar3N, bAsgP, dCallPK, dCallPP, fSortQ, sTupO, sTupM, sTupE, dIsNoX, sSegL]
      by_cases c : z = f
      · exact .inl ⟨c, q2 (by simp [c])⟩
      · exact .inr ⟨c, la, q1 (by simp [c])⟩
  rintro _ ⟨a3, a4, rfl⟩
  rw [← pl, List.take_length]
  simp [initA, sRet, dB1, fAll, fAny, dVal, dLc, lLc, iSq, dRd, dVar, dFz, sSeq, sNext, sAsg, sOwn, sIf, sFor, sApp, sRetN, sDrop, sPar, sPar3, dC, dV, dOp, fI, fI0, fEq, fNe, fEqD, fNeD, fIn, dIx, dIxR, dTest, dNot, dAnd, dOr, dYes, dIfE, dAndV, dOrV, dNotV, dNeg, dNil, dCons, dConsR, dStar, dLst, dTup, lLst, lVar, lSl, lList, lCat, dL, dRep, gdName, gdNil, gdCons, gdSq, gdTup, bnd, iRg, iEn, iZp, zLv, dSl, dNoPart, dPart, fSlL, fSlT, fSlS, fLen, fLenA, fLenT, fList, fTuple, dCall0, dCallX, dCallT, WF.wp, lcStep, wipeD, lcOk, isOwn, isOwL, Lv.ch, Lv.sh, sc_n, sc_b, sc_i, sc_s, sc_l, sc_t, scD_ss, scD_ii, scD_bb, eqS_ss, eqS_ii, eqS_bb, isNo, okU, thn_rt, thn_bk, thn_ct, DEnds.loop, sCont, sBreak, fInt1, fMax2, fMin2, fIsi, fIsi2, dSetS, sParN, lRev, dDraw, dNames, dPartT, fSortS, fSortD, fRepr, fInD, fNotT, dTru, fIsB, tru, dSame, dCallK, fInA, dRevT, fRevT, dCount, dCatT, notP_V, notP_R, notP_l, dIdx, sRaise, fSlQ, cutD, true_and, sTry, bDrop, bAsg, bIf, dIsH, dWhat, sPop, sIns, sParO, dLists, lCatL, dCallN, dCallNN, sParD, fMaxI, fSortI, sSeg, dStrewn, sSegB, dRepZ, mDictT, mDict, mVar, dGetI, dGet1, dGet2, dCallM, sMap, dMinIx, dCallP, dCallPX, lkAt, sTupO, sTupM, sPar3N, bAsgP, dCallPK, dCallPP, fSortQ, sTupO, sTupM, sTupE, dIsNoX, sSegL]
  rfl
end
theorem sc__law_told_right : FnScope ["_law_orchards", "_law_likings", "_law_row", "_law_due", "_law_told", "_law_fruits", "_law_others"] ["_law_orchards", "_law_likings", "_law_row"] (defScope s__law_told_right) := ⟨rfl, rfl, rfl, by decide +kernel, rfl, by decide +kernel, by decide +kernel⟩
theorem deep_str (k : Nat) (z : Str) : Deep k (.str z) := by cases k <;> trivial
section
variable {P : Program} {w : World} {K : PySem.W.Frag} {mg : Str → Option Value} {base : Heap}
theorem ok__law_told_right (T : Txt K mg) (TB : LamX.TabB base mg T.cp_passed_by T.tp_passed_by) : FnOk P w K mg base CX0 10 T.f__law_told_right T.fd__law_told_right ["_law_orchards", "_law_likings", "_law_row"] (spP K T.tp_passed_by qPB [false, false, true] wf_told12) := by
  refine T.F__law_told_right.ok sc__law_told_right (fun vs H Q E h => spP_len h) (fun cdv A outer s H vs Q E hr h => ?_)
  refine ⟨_, (pss_cons (ps_set (i := 3) sc__law_told_right.nd rfl (by first | exact Or.inl rfl | exact Or.inr rfl) (pe_call (ok__law_passed T) (hr.mono (by decide)) (by rfl) T.g__law_passed T.F__law_passed.kp T.b__law_passed .nil pass0 (pa_cons (pv 0) (pa_cons (pv 2) pa_nil))))
      (pss_cons (ps_set (i := 4) sc__law_told_right.nd rfl (by first | exact Or.inl rfl | exact Or.inr rfl) (pe_lst (pa_cons (pe_call (ok_pick T TB) (hr.mono (by decide)) (by rfl) T.g_pick T.F_pick.kp T.b_pick .nil pass0 (pa_cons (pv 0) (pa_cons (pv 1) pa_nil))) (pa_cons (pe_callK0 (ok_pick T TB) (hr.mono (by decide)) (by rfl) T.g_pick T.F_pick.kp T.kb_pick pass0 (pk_cons (pe_callTy kk_list_of (by rfl) T.m_list (by decide +kernel) (pa_cons (pv 1) pa_nil)) (pk_cons (pe_call (ok__law_lists T 7) (hr.mono (by decide)) (by rfl) T.g__law_lists T.F__law_lists.kp T.b__law_lists .nil pass0 (pa_cons (pv 0) pa_nil)) pk_nil))) pa_nil))))
      (pss_cons (ps_if (pt_not (pt_val (pe_call (ok__law_same T 7) (hr.mono (by decide)) (by rfl) T.g__law_same T.F__law_same.kp T.b__law_same .nil pass0 (pa_cons (pv 4) (pa_cons (pe_lst (pa_cons (pv 2) (pa_cons (pv 2) pa_nil))) pa_nil))))) (pss_one (ps_ret pe_bl)) pss_nil)
      (pss_cons (ps_set (i := 4) sc__law_told_right.nd rfl (by first | exact Or.inl rfl | exact Or.inr rfl) (pe_lst (pa_cons (pe_call (ok_passed_by T TB) (hr.mono (by decide)) (by rfl) T.g_passed_by T.F_passed_by.kp T.b_passed_by .nil pass0 (pa_cons (pv 0) (pa_cons (pv 1) pa_nil))) (pa_cons (pe_callK0 (ok_passed_by T TB) (hr.mono (by decide)) (by rfl) T.g_passed_by T.F_passed_by.kp T.kb_passed_by pass0 (pk_cons (pv 1) (pk_cons (pv 0) pk_nil))) pa_nil))))
      (pss_cons (ps_if (pt_not (pt_val (pe_call (ok__law_same T 7) (hr.mono (by decide)) (by rfl) T.g__law_same T.F__law_same.kp T.b__law_same .nil pass0 (pa_cons (pv 4) (pa_cons (pe_lst (pa_cons (pv 3) (pa_cons (pv 3) pa_nil))) pa_nil))))) (pss_one (ps_ret pe_bl)) pss_nil)
      (pss_cons (ps_for PassesOwn.never rfl (pi_any (pe_ix ix_seq (pv 4) pe_int (fun _ _ => rfl))) (pg_tup (n := 2) rfl (pgs_cons (pg_name (i := 5) sc__law_told_right.nd rfl (by first | exact Or.inl rfl | exact Or.inr rfl)) (pgs_cons (pg_name (i := 6) sc__law_told_right.nd rfl (by first | exact Or.inl rfl | exact Or.inr rfl)) pgs_nil)))
      (pss_one (ps_expr (pe_bm PySem.F.plainAttrs_list PySem.F.slot_list_append PySem.F.type_list_append mt_append (pv 6) (pa_cons pe_str pa_nil)))))
      (pss_cons (ps_expr (pe_bm0 PySem.F.plainAttrs_list PySem.F.slot_list_reverse PySem.F.type_list_reverse mt_reverse (pe_ix ix_seq (pv 4) pe_int (fun _ _ => rfl))))
      (pss_one (ps_ret (pe_call (ok__law_same T 7) (hr.mono (by decide)) (by rfl) T.g__law_same T.F__law_same.kp T.b__law_same .nil pass0 (pa_cons (pe_lst (pa_cons (pe_call (ok_passed_by T TB) (hr.mono (by decide)) (by rfl) T.g_passed_by T.F_passed_by.kp T.b_passed_by .nil pass0 (pa_cons (pv 0) (pa_cons (pv 1) pa_nil))) (pa_cons (pe_call (ok_pick T TB) (hr.mono (by decide)) (by rfl) T.g_pick T.F_pick.kp T.b_pick .nil pass0 (pa_cons (pv 0) (pa_cons (pv 1) pa_nil))) pa_nil))) (pa_cons (pe_lst (pa_cons (pv 3) (pa_cons (pv 2) pa_nil))) pa_nil)))))))))))), ?_⟩
  try dsimp only [cxOf, Cx.nox, List.map]
  refine pu_fnP h (fun (g : Gr × List Str) ds hp => ?_)
  obtain ⟨G, lk⟩ := g
  obtain ⟨rfl, ok, gin, ll, pl⟩ := hp
  simp only at ok gin ll pl
  have s2 : 200000 ≤ sizeLine := by rw [sizeLine_eq]; decide
  simp [initA, sRet, dB1, fAll, fAny, dVal, dLc, lLc, iSq, dRd, dVar, dFz, sSeq, sNext, sAsg, sOwn, sIf, sFor, sApp, sRetN, sDrop, sPar, sPar3, dC, dV, dOp, fI, fI0, fEq, fNe, fEqD, fNeD, fIn, dIx, dIxR, dTest, dNot, dAnd, dOr, dYes, dIfE, dAndV, dOrV, dNotV, dNeg, dNil, dCons, dConsR, dStar, dLst, dTup, lLst, lVar, lSl, lList, lCat, dL, dRep, gdName, gdNil, gdCons, gdSq, gdTup, bnd, iRg, iEn, iZp, zLv, dSl, dNoPart, dPart, fSlL, fSlT, fSlS, fLen, fLenA, fLenT, fList, fTuple, dCall0, dCallX, dCallT, WF.wp, lcStep, wipeD, lcOk, isOwn, isOwL, Lv.ch, Lv.sh, sc_n, sc_b, sc_i, sc_s, sc_l, sc_t, scD_ss, scD_ii, scD_bb, eqS_ss, eqS_ii, eqS_bb, isNo, okU, thn_rt, thn_bk, thn_ct, DEnds.loop, sCont, sBreak, fInt1, fMax2, fMin2, fIsi, fIsi2, dSetS, sParN, lRev, dDraw, dNames, dPartT, fSortS, fSortD, fRepr, fInD, fNotT, dTru, fIsB, tru, dSame, dCallK, fInA, dRevT, fRevT, dCount, dCatT, notP_V, notP_R, notP_l, dIdx, sRaise, fSlQ, cutD, true_and, sTry, bDrop, bAsg, bIf, dIsH, dWhat, sPop, sIns, sParO, dLists, lCatL, dCallN, dCallNN, sParD, fMaxI, fSortI, sSeg, dStrewn, sSegB, dRepZ, mDictT, mDict, mVar, dGetI, dGet1, dGet2, dCallM, sMap, dMinIx, dCallP, dCallPX, lkAt, sTupO, sTupM, sPar3N, bAsgP, dCallPK, dCallPP, fSortQ, sTupO, sTupM, sTupE, dIsNoX, sSegL]
  refine ⟨(G, pickG G lk), ⟨_, rfl, flat_gr G, ok, pl⟩, ?_, fun _ _ z => z⟩
  rintro _ _ rfl
  rw [thn_nx]
  have pre : ∀ a b, flat a = grD G → Items b (lk.map .str) → wf_pickP.pre (G, lk) [a, b] 0 := fun a b ha hb => ⟨a, b, rfl, ha, hb, ok, gin, ll⟩
  have prp : ∀ a b, flat a = grD G → Items b (lk.map .str) → wf_passed.pre (G, lk) [a, b] 0 := fun a b ha hb => ⟨a, b, rfl, ha, hb, ok, gin, ll⟩
  have gf := flat_gr G
  have pgl : (passG G (pickG G lk)).length ≤ 100 := by rw [passG_len]; exact pl
  have dS : ∀ (k : Nat) (l : List Str), l.length ≤ 1000 → Deep (k + 1) (.list (l.map .str)) := fun k l h => deep_l (by rw [List.length_map]; omega) fun d hd => by
    obtain ⟨z, _, rfl⟩ := List.mem_map.mp hd
    exact deep_str k z
  have dP : ∀ k, Deep (k + 3) (.list ((passG G (pickG G lk)).map psD)) := fun k => deep_l (by rw [List.length_map]; omega) fun d hd => by
    obtain ⟨p, hp, rfl⟩ := List.mem_map.mp hd
    unfold psD Deep
    refine ⟨by simp, fun d hd => ?_⟩
    rcases List.mem_cons.mp hd with rfl | hd
    · exact deep_str _ _
    · rw [List.mem_singleton.mp hd]
      exact dS k _ (passG_few ok p hp)
  refine sSeq_rule (fun δ => δ = ⟨[.rd (grD G), .rd (.tuple (lk.map .str)), .dat (.list ((pickG G lk).map .str)), .dat (.list ((passG G (pickG G lk)).map psD)), .own [.list ((pickG G lk).map .str), .list ((pickG G lk).map .str)], .no, .no], 0⟩) (fun B hB _ _ _ => ?_) ?_
  · simp [initA, sRet, dB1, fAll, fAny, dVal, dLc, lLc, iSq, dRd, dVar, dFz, sSeq, sNext, sAsg, sOwn, sIf, sFor, sApp, sRetN, sDrop, sPar, sPar3, dC, dV, dOp, fI, fI0, fEq, fNe, fEqD, fNeD, fIn, dIx, dIxR, dTest, dNot, dAnd, dOr, dYes, dIfE, dAndV, dOrV, dNotV, dNeg, dNil, dCons, dConsR, dStar, dLst, dTup, lLst, lVar, lSl, lList, lCat, dL, dRep, gdName, gdNil, gdCons, gdSq, gdTup, bnd, iRg, iEn, iZp, zLv, dSl, dNoPart, dPart, fSlL, fSlT, fSlS, fLen, fLenA, fLenT, fList, fTuple, dCall0, dCallX, dCallT, WF.wp, lcStep, wipeD, lcOk, isOwn, isOwL, Lv.ch, Lv.sh, sc_n, sc_b, sc_i, sc_s, sc_l, sc_t, scD_ss, scD_ii, scD_bb, eqS_ss, eqS_ii, eqS_bb, isNo, okU, thn_rt, thn_bk, thn_ct, DEnds.loop, sCont, sBreak, fInt1, fMax2, fMin2, fIsi, fIsi2, dSetS, sParN, lRev, dDraw, dNames, dPartT, fSortS, fSortD, fRepr, fInD, fNotT, dTru, fIsB, tru, dSame, dCallK, fInA, dRevT, fRevT, dCount, dCatT, notP_V, notP_R, notP_l, dIdx, sRaise, fSlQ, cutD, true_and, sTry, bDrop, bAsg, bIf, dIsH, dWhat, sPop, sIns, sParO, dLists, lCatL, dCallN, dCallNN, sParD, fMaxI, fSortI, sSeg, dStrewn, sSegB, dRepZ, mDictT, mDict, mVar, dGetI, dGet1, dGet2, dCallM, sMap, dMinIx, dCallP, dCallPX, lkAt, sTupO, sTupM, sPar3N, bAsgP, dCallPK, dCallPP, fSortQ, sTupO, sTupM, sTupE, dIsNoX, sSegL]
    refine ⟨(G, lk), pre _ _ gf (.inr rfl), ?_, fun _ _ z => z⟩
    rintro _ _ rfl
    refine ⟨_, .inr rfl, fun d hd => ?_, deep_gr 2 ok.1 ok.2, (G, lk), pre _ _ ((flat_listy _).trans gf) (.inl rfl), ?_, fun _ _ z => z⟩
    · obtain ⟨z, _, rfl⟩ := List.mem_map.mp hd; rfl
    rintro _ _ rfl
    exact ⟨by omega, hB _ rfl⟩
  rintro _ rfl
  refine sSeq_rule (fun δ => δ = ⟨[.rd (grD G), .rd (.tuple (lk.map .str)), .dat (.list ((pickG G lk).map .str)), .dat (.list ((passG G (pickG G lk)).map psD)), .own [.list ((pickG G lk).map .str), .list ((pickG G lk).map .str)], .no, .no], 0⟩) (fun B hB _ _ _ => ?_) ?_
  · simp [initA, sRet, dB1, fAll, fAny, dVal, dLc, lLc, iSq, dRd, dVar, dFz, sSeq, sNext, sAsg, sOwn, sIf, sFor, sApp, sRetN, sDrop, sPar, sPar3, dC, dV, dOp, fI, fI0, fEq, fNe, fEqD, fNeD, fIn, dIx, dIxR, dTest, dNot, dAnd, dOr, dYes, dIfE, dAndV, dOrV, dNotV, dNeg, dNil, dCons, dConsR, dStar, dLst, dTup, lLst, lVar, lSl, lList, lCat, dL, dRep, gdName, gdNil, gdCons, gdSq, gdTup, bnd, iRg, iEn, iZp, zLv, dSl, dNoPart, dPart, fSlL, fSlT, fSlS, fLen, fLenA, fLenT, fList, fTuple, dCall0, dCallX, dCallT, WF.wp, lcStep, wipeD, lcOk, isOwn, isOwL, Lv.ch, Lv.sh, sc_n, sc_b, sc_i, sc_s, sc_l, sc_t, scD_ss, scD_ii, scD_bb, eqS_ss, eqS_ii, eqS_bb, isNo, okU, thn_rt, thn_bk, thn_ct, DEnds.loop, sCont, sBreak, fInt1, fMax2, fMin2, fIsi, fIsi2, dSetS, sParN, lRev, dDraw, dNames, dPartT, fSortS, fSortD, fRepr, fInD, fNotT, dTru, fIsB, tru, dSame, dCallK, fInA, dRevT, fRevT, dCount, dCatT, notP_V, notP_R, notP_l, dIdx, sRaise, fSlQ, cutD, true_and, sTry, bDrop, bAsg, bIf, dIsH, dWhat, sPop, sIns, sParO, dLists, lCatL, dCallN, dCallNN, sParD, fMaxI, fSortI, sSeg, dStrewn, sSegB, dRepZ, mDictT, mDict, mVar, dGetI, dGet1, dGet2, dCallM, sMap, dMinIx, dCallP, dCallPX, lkAt, sTupO, sTupM, sPar3N, bAsgP, dCallPK, dCallPP, fSortQ, sTupO, sTupM, sTupE, dIsNoX, sSegL]
    exact ⟨by omega, deep_l (by simp) (fun d hd => by
      simp only [List.mem_cons, List.not_mem_nil, or_false] at hd
      rcases hd with rfl | rfl <;> exact dS 4 _ (by omega)), hB _ rfl⟩
  rintro _ rfl
  simp [initA, sRet, dB1, fAll, fAny, dVal, dLc, lLc, iSq, dRd, dVar, dFz, sSeq, sNext, sAsg, sOwn, sIf, sFor, sApp, sRetN, sDrop, sPar, sPar3, dC, dV, dOp, fI, fI0, fEq, fNe, fEqD, fNeD, fIn, dIx, dIxR, dTest, dNot, dAnd, dOr, dYes, dIfE, dAndV, dOrV, dNotV, dNeg, dNil, dCons, dConsR, dStar, dLst, dTup, lLst, lVar, lSl, lList, lCat, dL, dRep, gdName, gdNil, gdCons, gdSq, gdTup, bnd, iRg, iEn, iZp, zLv, dSl, dNoPart, dPart, fSlL, fSlT, fSlS, fLen, fLenA, fLenT, fList, fTuple, dCall0, dCallX, dCallT, WF.wp, lcStep, wipeD, lcOk, isOwn, isOwL, Lv.ch, Lv.sh, sc_n, sc_b, sc_i, sc_s, sc_l, sc_t, scD_ss, scD_ii, scD_bb, eqS_ss, eqS_ii, eqS_bb, isNo, okU, thn_rt, thn_bk, thn_ct, DEnds.loop, sCont, sBreak, fInt1, fMax2, fMin2, fIsi, fIsi2, dSetS, sParN, lRev, dDraw, dNames, dPartT, fSortS, fSortD, fRepr, fInD, fNotT, dTru, fIsB, tru, dSame, dCallK, fInA, dRevT, fRevT, dCount, dCatT, notP_V, notP_R, notP_l, dIdx, sRaise, fSlQ, cutD, true_and, sTry, bDrop, bAsg, bIf, dIsH, dWhat, sPop, sIns, sParO, dLists, lCatL, dCallN, dCallNN, sParD, fMaxI, fSortI, sSeg, dStrewn, sSegB, dRepZ, mDictT, mDict, mVar, dGetI, dGet1, dGet2, dCallM, sMap, dMinIx, dCallP, dCallPX, lkAt, sTupO, sTupM, sPar3N, bAsgP, dCallPK, dCallPP, fSortQ, sTupO, sTupM, sTupE, dIsNoX, sSegL]
  have pa := prp _ _ gf (.inr rfl)
  refine ⟨(G, lk), pa, ?_, fun _ _ z => z⟩
  rintro _ _ rfl
  refine ⟨⟨passG G (pickG G lk), rfl, by omega, fun a b h => passG_few ok _ h⟩, (G, lk), pa, ?_, fun _ _ z => z⟩
  rintro _ _ rfl
  refine ⟨⟨_, rfl⟩, by omega, ⟨rfl, rfl⟩, ?_⟩
  refine ⟨deep_l (by simp) (fun d hd => by
      simp only [List.mem_cons, List.not_mem_nil, or_false] at hd
      rcases hd with rfl | rfl <;> exact dP 2), (G, lk), pa, ?_, fun _ _ z => z⟩
  rintro _ _ rfl
  refine ⟨(G, lk), pre _ _ gf (.inr rfl), ?_, fun _ _ z => z⟩
  rintro _ _ rfl
  exact ⟨by omega, ⟨rfl, rfl⟩, deep_l (by simp) (fun d hd => by
      simp only [List.mem_cons, List.not_mem_nil, or_false] at hd
      rcases hd with rfl | rfl
      · exact dP 2
      · exact dS 4 _ (by omega)), rfl⟩
end
theorem sc__law_right : FnScope ["_law_tape_here", "_law_turn_here", "_law_names_here", "_law_fruits", "_law_odd", "_law_orchards", "_law_likings", "_law_kept", "_law_row", "_law_due", "_law_told"] ["_law_tape_here"] (defScope s__law_right) := ⟨rfl, rfl, rfl, by decide +kernel, rfl, by decide +kernel, by decide +kernel⟩
theorem deep_gr_none (f : Str) : Deep 6 (.tuple [.str (Str.ofString "none"), .str f]) := by
  unfold Deep
  refine ⟨by simp, fun d hd => ?_⟩
  simp only [List.mem_cons, List.not_mem_nil, or_false] at hd
  rcases hd with rfl | rfl <;> trivial
section
variable {P : Program} {w : World} {K : PySem.W.Frag} {mg : Str → Option Value} {base : Heap}
def R12 (i : Nat) (zs : List Str) (v3 v4 : AV) (G : Gr) (lk : List Str) (kp : Str) (v8 v9 v10 : AV) (n : Nat) : DS := ⟨[.tape, .dat (.int (i : Nat)), .dat (.list (zs.map .str)), v3, v4, .dat (grD G), .dat (.tuple (lk.map .str)), .dat (.str kp), v8, v9, v10], n⟩
theorem ok__law_right (T : Txt K mg) (TB : LamX.TabB base mg T.cp_passed_by T.tp_passed_by) : FnOkG P w K mg base CX0 13 T.f__law_right T.fd__law_right ["_law_tape_here"] (spTP K T.tp_passed_by qPB [] wf_right) := by
  refine okG T.F__law_right sc__law_right (fun vs H Q E h => spTP_len h) (fun cdv A outer s H vs Q E noRepr hr h => ?_)
  refine ⟨_, (pss_cons (ps_for PassesOwn.never rfl (pi_range1 (by rfl) T.m_range (pa_cons pe_int pa_nil)) (pg_name (i := 1) sc__law_right.nd rfl (by first | exact Or.inl rfl | exact Or.inr rfl))
      (pss_cons (ps_set (i := 2) sc__law_right.nd rfl (by first | exact Or.inl rfl | exact Or.inr rfl) (pe_call (ok__law_names T) (hr.mono (by decide)) (by rfl) T.g__law_names T.F__law_names.kp T.b__law_names .nil pass0 (pa_cons (pv 0) (pa_cons (pe_call (ok__law_draw T) (hr.mono (by decide)) (by rfl) T.g__law_draw T.F__law_draw.kp T.b__law_draw .nil pass0 (pa_cons (pv 0) (pa_cons pe_int pa_nil))) pa_nil))))
      (pss_cons (ps_par (by rfl) sc__law_right.nd (i := 5) (j := 6) rfl rfl (by decide) rfl rfl (pa_cons (pe_call (ok__law_orchard T) (hr.mono (by decide)) (by rfl) T.g__law_orchard T.F__law_orchard.kp T.b__law_orchard .nil pass0 (pa_cons (pv 0) (pa_cons (pv 2) (pa_cons pe_int pa_nil)))) (pa_cons (pe_callTy kk_tuple_of (by rfl) T.m_tuple (by decide +kernel) (pa_cons (pe_call (ok__law_part T) (hr.mono (by decide)) (by rfl) T.g__law_part T.F__law_part.kp T.b__law_part .nil pass0 (pa_cons (pv 0) (pa_cons (pv 2) (pa_cons (pe_callB kk_len_seq (by rfl) T.m_len (by decide +kernel) (pa_cons (pv 2) pa_nil)) pa_nil)))) pa_nil)) pa_nil)) (by rfl))
      (pss_cons (ps_par (by rfl) sc__law_right.nd (i := 7) (j := 8) rfl rfl (by decide) rfl rfl (pa_cons (pe_callB (call_reprA noRepr hr.units) (by rfl) T.m_repr (by decide +kernel) (pa_cons (pe_lst (pa_cons (pv 5) (pa_cons (pv 6) pa_nil))) pa_nil)) (pa_cons (pe_call (ok__law_picked T) (hr.mono (by decide)) (by rfl) T.g__law_picked T.F__law_picked.kp T.b__law_picked .nil pass0 (pa_cons (pv 5) (pa_cons (pv 6) pa_nil))) pa_nil)) (by rfl))
      (pss_cons (ps_if (pt_not (pt_val (pe_call (ok__law_told_right T TB) (hr.mono (by decide)) (by rfl) T.g__law_told_right T.F__law_told_right.kp T.b__law_told_right .nil pass0 (pa_cons (pv 5) (pa_cons (pv 6) (pa_cons (pv 8) pa_nil)))))) (pss_one (ps_ret pe_bl)) pss_nil)
      (pss_cons (ps_for PassesOwn.never rfl (pi_any (pv 2)) (pg_name (i := 3) sc__law_right.nd rfl (by first | exact Or.inl rfl | exact Or.inr rfl))
      (pss_cons (ps_set (i := 9) sc__law_right.nd rfl (by first | exact Or.inl rfl | exact Or.inr rfl) (pe_ifExp (pt_cmpR op_in_seq (pv 3) (pv 8) (by rfl)) (pe_op op_add (pe_idx (pv 8) (pa_cons (pv 3) pa_nil)) pe_int) pe_non))
      (pss_cons (ps_set (i := 10) sc__law_right.nd rfl (by first | exact Or.inl rfl | exact Or.inr rfl) (pe_lst (pa_cons (pe_call (ok__law_turn T TB) (hr.mono (by decide)) (by rfl) T.g__law_turn T.F__law_turn.kp T.b__law_turn .nil pass0 (pa_cons (pv 5) (pa_cons (pv 6) (pa_cons (pv 3) pa_nil)))) (pa_cons (pe_callK0 (ok_turn_of T TB) (hr.mono (by decide)) (by rfl) T.g_turn_of T.F_turn_of.kp T.kb_turn_of passF (pk_cons (pv 3) (pk_cons (pv 5) (pk_cons (pv 6) pk_nil)))) pa_nil))))
      (pss_one (ps_if (pt_not (pt_val (pe_call (ok__law_same T 7) (hr.mono (by decide)) (by rfl) T.g__law_same T.F__law_same.kp T.b__law_same .nil pass0 (pa_cons (pv 10) (pa_cons (pe_lst (pa_cons (pv 9) (pa_cons (pv 9) pa_nil))) pa_nil))))) (pss_one (ps_ret pe_bl)) pss_nil)))))
      (pss_cons (ps_for PassesOwn.never rfl (pi_any (pe_tupZ (pa_cons pe_str (pa_cons pe_str (pa_cons pe_str (pa_cons pe_str pa_nil)))))) (pg_name (i := 4) sc__law_right.nd rfl (by first | exact Or.inl rfl | exact Or.inr rfl))
      (pss_one (ps_if (PW.pt (pw_and (pt_cmpR op_notIn_seq (pv 4) (pv 2) (by rfl)) (pw_and1 (pt_not (pt_val (pe_call (ok__law_same T 7) (hr.mono (by decide)) (by rfl) T.g__law_same T.F__law_same.kp T.b__law_same .nil pass0 (pa_cons (pe_call (ok__law_turn T TB) (hr.mono (by decide)) (by rfl) T.g__law_turn T.F__law_turn.kp T.b__law_turn .nil pass0 (pa_cons (pv 5) (pa_cons (pv 6) (pa_cons (pv 4) pa_nil)))) (pa_cons (pe_tupZ (pa_cons pe_str (pa_cons (pv 4) pa_nil))) pa_nil)))))))) (pss_one (ps_ret pe_bl)) pss_nil)))
      (pss_one (ps_if (pt_cmpR op_ne (pe_callB (call_reprA noRepr hr.units) (by rfl) T.m_repr (by decide +kernel) (pa_cons (pe_lst (pa_cons (pv 5) (pa_cons (pv 6) pa_nil))) pa_nil)) (pv 7) (nomark _)) (pss_one (ps_ret pe_bl)) pss_nil)))))))))
      (pss_one (ps_ret pe_bl))), ?_⟩
  try dsimp only [cxOf, Cx.nox, List.map]
  refine pu_fnTP h (fun (g : Nat) ds n hp => ?_)
  obtain ⟨rfl, rfl, hn⟩ := hp
  have s2 : 200000 ≤ sizeLine := by rw [sizeLine_eq]; decide
  refine sSeq_rule (fun _ => True) (fun B hB hrt _ _ => ?_) (fun δ _ => ?_)
  · simp [initA, sRet, dB1, fAll, fAny, dVal, dLc, lLc, iSq, dRd, dVar, dFz, sSeq, sNext, sAsg, sOwn, sIf, sFor, sApp, sRetN, sDrop, sPar, sPar3, dC, dV, dOp, fI, fI0, fEq, fNe, fEqD, fNeD, fIn, dIx, dIxR, dTest, dNot, dAnd, dOr, dYes, dIfE, dAndV, dOrV, dNotV, dNeg, dNil, dCons, dConsR, dStar, dLst, dTup, lLst, lVar, lSl, lList, lCat, dL, dRep, gdName, gdNil, gdCons, gdSq, gdTup, bnd, iRg, iEn, iZp, zLv, dSl, dNoPart, dPart, fSlL, fSlT, fSlS, fLen, fLenA, fLenT, fList, fTuple, dCall0, dCallX, dCallT, WF.wp, lcStep, wipeD, lcOk, isOwn, isOwL, Lv.ch, Lv.sh, sc_n, sc_b, sc_i, sc_s, sc_l, sc_t, scD_ss, scD_ii, scD_bb, eqS_ss, eqS_ii, eqS_bb, isNo, okU, thn_rt, thn_bk, thn_ct, DEnds.loop, sCont, sBreak, fInt1, fMax2, fMin2, fIsi, fIsi2, dSetS, sParN, lRev, dDraw, dNames, dPartT, fSortS, fSortD, fRepr, fInD, fNotT, dTru, fIsB, tru, dSame, dCallK, fInA, dRevT, fRevT, dCount, dCatT, notP_V, notP_R, notP_l, dIdx, sRaise, fSlQ, cutD, true_and, sTry, bDrop, bAsg, bIf, dIsH, dWhat, sPop, sIns, sParO, dLists, lCatL, dCallN, dCallNN, sParD, fMaxI, fSortI, sSeg, dStrewn, sSegB, dRepZ, mDictT, mDict, mVar, dGetI, dGet1, dGet2, dCallM, sMap, dMinIx, dCallP, dCallPX, lkAt, sTupO, sTupM, sPar3N, bAsgP, dCallPK, dCallPP, fSortQ, sTupO, sTupM, sTupE, dIsNoX, sSegL]
    refine ⟨fun i δ => ∃ (v1 v2 v3 v4 v5 v6 v7 v8 v9 v10 : AV) (m : Nat), m ≤ n + 5000 * i ∧ δ = ⟨[.tape, v1, v2, v3, v4, v5, v6, v7, v8, v9, v10], m⟩, ⟨_, _, _, _, _, _, _, _, _, _, _, by omega, rfl⟩, fun i x δ' ex hI => ?_, fun δ' _ => hB _ trivial⟩
    obtain ⟨v1, v2, v3, v4, v5, v6, v7, v8, v9, v10, m, hm, rfl⟩ := hI
    obtain ⟨rfl, il⟩ := rg_inv ex
    have il : i < 6 := il
    refine ⟨_, rfl, ?_⟩
    refine sSeq_rule (fun δ => ∃ (zs : List Str) (m1 : Nat), zs.length ≤ 12 ∧ zs.Nodup ∧ (∀ z ∈ zs, IsName z) ∧ m1 ≤ m + 100 ∧ δ = ⟨[.tape, .dat (.int (i : Nat)), .dat (.list (zs.map .str)), v3, v4, v5, v6, v7, v8, v9, v10], m1⟩) (fun B1 hB1 _ _ _ => ?_) ?_
    · simp [initA, sRet, dB1, fAll, fAny, dVal, dLc, lLc, iSq, dRd, dVar, dFz, sSeq, sNext, sAsg, sOwn, sIf, sFor, sApp, sRetN, sDrop, sPar, sPar3, dC, dV, dOp, fI, fI0, fEq, fNe, fEqD, fNeD, fIn, dIx, dIxR, dTest, dNot, dAnd, dOr, dYes, dIfE, dAndV, dOrV, dNotV, dNeg, dNil, dCons, dConsR, dStar, dLst, dTup, lLst, lVar, lSl, lList, lCat, dL, dRep, gdName, gdNil, gdCons, gdSq, gdTup, bnd, iRg, iEn, iZp, zLv, dSl, dNoPart, dPart, fSlL, fSlT, fSlS, fLen, fLenA, fLenT, fList, fTuple, dCall0, dCallX, dCallT, WF.wp, lcStep, wipeD, lcOk, isOwn, isOwL, Lv.ch, Lv.sh, sc_n, sc_b, sc_i, sc_s, sc_l, sc_t, scD_ss, scD_ii, scD_bb, eqS_ss, eqS_ii, eqS_bb, isNo, okU, thn_rt, thn_bk, thn_ct, DEnds.loop, sCont, sBreak, fInt1, fMax2, fMin2, fIsi, fIsi2, dSetS, sParN, lRev, dDraw, dNames, dPartT, fSortS, fSortD, fRepr, fInD, fNotT, dTru, fIsB, tru, dSame, dCallK, fInA, dRevT, fRevT, dCount, dCatT, notP_V, notP_R, notP_l, dIdx, sRaise, fSlQ, cutD, true_and, sTry, bDrop, bAsg, bIf, dIsH, dWhat, sPop, sIns, sParO, dLists, lCatL, dCallN, dCallNN, sParD, fMaxI, fSortI, sSeg, dStrewn, sSegB, dRepZ, mDictT, mDict, mVar, dGetI, dGet1, dGet2, dCallM, sMap, dMinIx, dCallP, dCallPX, lkAt, sTupO, sTupM, sPar3N, bAsgP, dCallPK, dCallPP, fSortQ, sTupO, sTupM, sTupE, dIsNoX, sSegL]
      exact ⟨by omega, fun r r0 r1 => ⟨r.toNat, by omega, by omega, by omega, fun zs l nd nm => hB1 _ ⟨zs, _, by omega, nd, nm, by omega, rfl⟩⟩⟩
    rintro _ ⟨zs, m1, lz, nd, nm, hm1, rfl⟩
    refine sSeq_rule (fun δ => ∃ (G : Gr) (lk : List Str) (n2 : Nat), Grew zs G ∧ lk.Perm zs ∧ n2 ≤ m + 4500 ∧ δ = ⟨[.tape, .dat (.int (i : Nat)), .dat (.list (zs.map .str)), v3, v4, .dat (grD G), .dat (.tuple (lk.map .str)), v7, v8, v9, v10], n2⟩) (fun B1 hB1 _ _ _ => ?_) ?_
    · simp [initA, sRet, dB1, fAll, fAny, dVal, dLc, lLc, iSq, dRd, dVar, dFz, sSeq, sNext, sAsg, sOwn, sIf, sFor, sApp, sRetN, sDrop, sPar, sPar3, dC, dV, dOp, fI, fI0, fEq, fNe, fEqD, fNeD, fIn, dIx, dIxR, dTest, dNot, dAnd, dOr, dYes, dIfE, dAndV, dOrV, dNotV, dNeg, dNil, dCons, dConsR, dStar, dLst, dTup, lLst, lVar, lSl, lList, lCat, dL, dRep, gdName, gdNil, gdCons, gdSq, gdTup, bnd, iRg, iEn, iZp, zLv, dSl, dNoPart, dPart, fSlL, fSlT, fSlS, fLen, fLenA, fLenT, fList, fTuple, dCall0, dCallX, dCallT, WF.wp, lcStep, wipeD, lcOk, isOwn, isOwL, Lv.ch, Lv.sh, sc_n, sc_b, sc_i, sc_s, sc_l, sc_t, scD_ss, scD_ii, scD_bb, eqS_ss, eqS_ii, eqS_bb, isNo, okU, thn_rt, thn_bk, thn_ct, DEnds.loop, sCont, sBreak, fInt1, fMax2, fMin2, fIsi, fIsi2, dSetS, sParN, lRev, dDraw, dNames, dPartT, fSortS, fSortD, fRepr, fInD, fNotT, dTru, fIsB, tru, dSame, dCallK, fInA, dRevT, fRevT, dCount, dCatT, notP_V, notP_R, notP_l, dIdx, sRaise, fSlQ, cutD, true_and, sTry, bDrop, bAsg, bIf, dIsH, dWhat, sPop, sIns, sParO, dLists, lCatL, dCallN, dCallNN, sParD, fMaxI, fSortI, sSeg, dStrewn, sSegB, dRepZ, mDictT, mDict, mVar, dGetI, dGet1, dGet2, dCallM, sMap, dMinIx, dCallP, dCallPX, lkAt, sTupO, sTupM, sPar3N, bAsgP, dCallPK, dCallPP, fSortQ, sTupO, sTupM, sTupE, dIsNoX, sSegL]
      refine ⟨(zs, 4, m1), ⟨rfl, rfl, nd, nm, by show zs.length ≤ 26; omega, by show 4 ≤ 10; decide, by show m1 ≤ 50000000; omega⟩, ?_, fun _ _ z => z⟩
      rintro _ n2 ⟨G, rfl, hG, hn2⟩
      have hn2 : n2 ≤ m1 + 4000 := hn2
      refine ⟨_, .inl rfl, zs, .inl rfl, zs.length, by simp, by omega, by omega, Nat.le_refl _, fun ys rest pm ly => ?_⟩
      have er : rest = [] := by
        have := pm.length_eq
        rw [List.length_append] at this
        exact List.length_eq_zero_iff.mp (by omega)
      subst er
      rw [List.append_nil] at pm
      exact ⟨_, .inl rfl, _, _, ⟨rfl, rfl⟩, hB1 _ ⟨G, ys, _, hG, pm, by omega, rfl⟩⟩
    rintro _ ⟨G, lk, n2, hG, plk, hn2, rfl⟩
    have gok := hG.okG (by omega)
    have gnm := hG.okN nm
    have gnd : (G.map (·.1)).Nodup := (hG.pm.nodup_iff).mpr nd
    have okz : okT zs := fun z hz => name_ok (nm z hz)
    have nlk : lk.Nodup := plk.nodup_iff.mpr nd
    have hin : ∀ p ∈ G, p.1 ∈ lk := fun p hp => plk.mem_iff.mpr (hG.pm.mem_iff.mp (List.mem_map.mpr ⟨p, hp, rfl⟩))
    have ll : lk.length = zs.length := plk.length_eq
    have nlkN : ∀ z ∈ lk, IsName z := fun z hz => nm z (plk.mem_iff.mp hz)
    have f0 := fine_l2 (fine_gr hG nm (by omega)) ((fine_names nlkN (by omega)).2.up (Nat.le_refl _) (show 1 ≤ 31 by decide))
    have pgl : (pickG G lk).length ≤ 100 := by have := pickN_len G lk lk.length; show (pickN G lk lk.length).length ≤ 100; omega
    generalize hK : (PyData.list [grD G, .tuple (lk.map .str)]).shown = kp
    have gf := flat_gr G
    refine sSeq_rule (fun δ => δ = R12 i zs v3 v4 G lk kp (.dat (.list ((pickG G lk).map .str))) v9 v10 n2) (fun B1 hB1 _ _ _ => ?_) ?_
    · simp [initA, sRet, dB1, fAll, fAny, dVal, dLc, lLc, iSq, dRd, dVar, dFz, sSeq, sNext, sAsg, sOwn, sIf, sFor, sApp, sRetN, sDrop, sPar, sPar3, dC, dV, dOp, fI, fI0, fEq, fNe, fEqD, fNeD, fIn, dIx, dIxR, dTest, dNot, dAnd, dOr, dYes, dIfE, dAndV, dOrV, dNotV, dNeg, dNil, dCons, dConsR, dStar, dLst, dTup, lLst, lVar, lSl, lList, lCat, dL, dRep, gdName, gdNil, gdCons, gdSq, gdTup, bnd, iRg, iEn, iZp, zLv, dSl, dNoPart, dPart, fSlL, fSlT, fSlS, fLen, fLenA, fLenT, fList, fTuple, dCall0, dCallX, dCallT, WF.wp, lcStep, wipeD, lcOk, isOwn, isOwL, Lv.ch, Lv.sh, sc_n, sc_b, sc_i, sc_s, sc_l, sc_t, scD_ss, scD_ii, scD_bb, eqS_ss, eqS_ii, eqS_bb, isNo, okU, thn_rt, thn_bk, thn_ct, DEnds.loop, sCont, sBreak, fInt1, fMax2, fMin2, fIsi, fIsi2, dSetS, sParN, lRev, dDraw, dNames, dPartT, fSortS, fSortD, fRepr, fInD, fNotT, dTru, fIsB, tru, dSame, dCallK, fInA, dRevT, fRevT, dCount, dCatT, notP_V, notP_R, notP_l, dIdx, sRaise, fSlQ, cutD, true_and, sTry, bDrop, bAsg, bIf, dIsH, dWhat, sPop, sIns, sParO, dLists, lCatL, dCallN, dCallNN, sParD, fMaxI, fSortI, sSeg, dStrewn, sSegB, dRepZ, mDictT, mDict, mVar, dGetI, dGet1, dGet2, dCallM, sMap, dMinIx, dCallP, dCallPX, lkAt, sTupO, sTupM, sPar3N, bAsgP, dCallPK, dCallPP, fSortQ, sTupO, sTupM, sTupE, dIsNoX, sSegL]
      refine ⟨by omega, f0.show_, f0.nod, by have := f0.dep; omega, f0.fits (by decide) (by decide), (G, lk), ⟨_, _, rfl, gf, .inr rfl, gok, by show lk.length ≤ 100; omega⟩, ?_, fun _ _ z => z⟩
      rintro _ _ rfl
      exact ⟨_, _, ⟨rfl, rfl⟩, hB1 _ (by rw [← hK]; rfl)⟩
    rintro _ rfl
    unfold R12
    refine sSeq_rule (fun δ => δ = R12 i zs v3 v4 G lk kp (.dat (.list ((pickG G lk).map .str))) v9 v10 n2) (fun B1 hB1 _ _ _ => ?_) ?_
    · simp [initA, sRet, dB1, fAll, fAny, dVal, dLc, lLc, iSq, dRd, dVar, dFz, sSeq, sNext, sAsg, sOwn, sIf, sFor, sApp, sRetN, sDrop, sPar, sPar3, dC, dV, dOp, fI, fI0, fEq, fNe, fEqD, fNeD, fIn, dIx, dIxR, dTest, dNot, dAnd, dOr, dYes, dIfE, dAndV, dOrV, dNotV, dNeg, dNil, dCons, dConsR, dStar, dLst, dTup, lLst, lVar, lSl, lList, lCat, dL, dRep, gdName, gdNil, gdCons, gdSq, gdTup, bnd, iRg, iEn, iZp, zLv, dSl, dNoPart, dPart, fSlL, fSlT, fSlS, fLen, fLenA, fLenT, fList, fTuple, dCall0, dCallX, dCallT, WF.wp, lcStep, wipeD, lcOk, isOwn, isOwL, Lv.ch, Lv.sh, sc_n, sc_b, sc_i, sc_s, sc_l, sc_t, scD_ss, scD_ii, scD_bb, eqS_ss, eqS_ii, eqS_bb, isNo, okU, thn_rt, thn_bk, thn_ct, DEnds.loop, sCont, sBreak, fInt1, fMax2, fMin2, fIsi, fIsi2, dSetS, sParN, lRev, dDraw, dNames, dPartT, fSortS, fSortD, fRepr, fInD, fNotT, dTru, fIsB, tru, dSame, dCallK, fInA, dRevT, fRevT, dCount, dCatT, notP_V, notP_R, notP_l, dIdx, sRaise, fSlQ, cutD, true_and, sTry, bDrop, bAsg, bIf, dIsH, dWhat, sPop, sIns, sParO, dLists, lCatL, dCallN, dCallNN, sParD, fMaxI, fSortI, sSeg, dStrewn, sSegB, dRepZ, mDictT, mDict, mVar, dGetI, dGet1, dGet2, dCallM, sMap, dMinIx, dCallP, dCallPX, lkAt, sTupO, sTupM, sPar3N, bAsgP, dCallPK, dCallPP, fSortQ, sTupO, sTupM, sTupE, dIsNoX, sSegL]
      refine ⟨(G, lk), ⟨rfl, gok, hin, by show lk.length ≤ 100; omega, pgl⟩, ?_, fun _ _ z => z⟩
      rintro _ _ rfl
      exact .inr ⟨rfl, hB1 _ rfl⟩
    rintro _ rfl
    unfold R12
    refine sSeq_rule (fun δ => ∃ w3 w9 w10 : AV, δ = R12 i zs w3 v4 G lk kp (.dat (.list ((pickG G lk).map .str))) w9 w10 n2) (fun B1 hB1 _ _ _ => ?_) ?_
    · simp [initA, sRet, dB1, fAll, fAny, dVal, dLc, lLc, iSq, dRd, dVar, dFz, sSeq, sNext, sAsg, sOwn, sIf, sFor, sApp, sRetN, sDrop, sPar, sPar3, dC, dV, dOp, fI, fI0, fEq, fNe, fEqD, fNeD, fIn, dIx, dIxR, dTest, dNot, dAnd, dOr, dYes, dIfE, dAndV, dOrV, dNotV, dNeg, dNil, dCons, dConsR, dStar, dLst, dTup, lLst, lVar, lSl, lList, lCat, dL, dRep, gdName, gdNil, gdCons, gdSq, gdTup, bnd, iRg, iEn, iZp, zLv, dSl, dNoPart, dPart, fSlL, fSlT, fSlS, fLen, fLenA, fLenT, fList, fTuple, dCall0, dCallX, dCallT, WF.wp, lcStep, wipeD, lcOk, isOwn, isOwL, Lv.ch, Lv.sh, sc_n, sc_b, sc_i, sc_s, sc_l, sc_t, scD_ss, scD_ii, scD_bb, eqS_ss, eqS_ii, eqS_bb, isNo, okU, thn_rt, thn_bk, thn_ct, DEnds.loop, sCont, sBreak, fInt1, fMax2, fMin2, fIsi, fIsi2, dSetS, sParN, lRev, dDraw, dNames, dPartT, fSortS, fSortD, fRepr, fInD, fNotT, dTru, fIsB, tru, dSame, dCallK, fInA, dRevT, fRevT, dCount, dCatT, notP_V, notP_R, notP_l, dIdx, sRaise, fSlQ, cutD, true_and, sTry, bDrop, bAsg, bIf, dIsH, dWhat, sPop, sIns, sParO, dLists, lCatL, dCallN, dCallNN, sParD, fMaxI, fSortI, sSeg, dStrewn, sSegB, dRepZ, mDictT, mDict, mVar, dGetI, dGet1, dGet2, dCallM, sMap, dMinIx, dCallP, dCallPX, lkAt, sTupO, sTupM, sPar3N, bAsgP, dCallPK, dCallPP, fSortQ, sTupO, sTupM, sTupE, dIsNoX, sSegL]
      refine ⟨_, .inl rfl, fun j δ => ∃ w3 w9 w10 : AV, δ = R12 i zs w3 v4 G lk kp (.dat (.list ((pickG G lk).map .str))) w9 w10 n2, ⟨_, _, _, rfl⟩, fun j x δ' ex hI => ?_, fun δ' hI => hB1 _ hI⟩
      obtain ⟨w3, w9, w10, rfl⟩ := hI
      rw [List.getElem?_map] at ex
      obtain ⟨f, ef, rfl⟩ := Option.map_eq_some_iff.mp ex
      have fz := List.mem_of_getElem? ef
      unfold R12
      refine ⟨_, rfl, ?_⟩
      have fg : f ∈ G.map (·.1) := hG.pm.mem_iff.mpr fz
      refine sSeq_rule (fun δ => δ = R12 i zs (.dat (.str f)) v4 G lk kp (.dat (.list ((pickG G lk).map .str))) (.dat (natD (turnN G lk f))) w10 n2) (fun B2 hB2 _ _ _ => ?_) ?_
      · simp [initA, sRet, dB1, fAll, fAny, dVal, dLc, lLc, iSq, dRd, dVar, dFz, sSeq, sNext, sAsg, sOwn, sIf, sFor, sApp, sRetN, sDrop, sPar, sPar3, dC, dV, dOp, fI, fI0, fEq, fNe, fEqD, fNeD, fIn, dIx, dIxR, dTest, dNot, dAnd, dOr, dYes, dIfE, dAndV, dOrV, dNotV, dNeg, dNil, dCons, dConsR, dStar, dLst, dTup, lLst, lVar, lSl, lList, lCat, dL, dRep, gdName, gdNil, gdCons, gdSq, gdTup, bnd, iRg, iEn, iZp, zLv, dSl, dNoPart, dPart, fSlL, fSlT, fSlS, fLen, fLenA, fLenT, fList, fTuple, dCall0, dCallX, dCallT, WF.wp, lcStep, wipeD, lcOk, isOwn, isOwL, Lv.ch, Lv.sh, sc_n, sc_b, sc_i, sc_s, sc_l, sc_t, scD_ss, scD_ii, scD_bb, eqS_ss, eqS_ii, eqS_bb, isNo, okU, thn_rt, thn_bk, thn_ct, DEnds.loop, sCont, sBreak, fInt1, fMax2, fMin2, fIsi, fIsi2, dSetS, sParN, lRev, dDraw, dNames, dPartT, fSortS, fSortD, fRepr, fInD, fNotT, dTru, fIsB, tru, dSame, dCallK, fInA, dRevT, fRevT, dCount, dCatT, notP_V, notP_R, notP_l, dIdx, sRaise, fSlQ, cutD, true_and, sTry, bDrop, bAsg, bIf, dIsH, dWhat, sPop, sIns, sParO, dLists, lCatL, dCallN, dCallNN, sParD, fMaxI, fSortI, sSeg, dStrewn, sSegB, dRepZ, mDictT, mDict, mVar, dGetI, dGet1, dGet2, dCallM, sMap, dMinIx, dCallP, dCallPX, lkAt, sTupO, sTupM, sPar3N, bAsgP, dCallPK, dCallPP, fSortQ, sTupO, sTupM, sTupE, dIsNoX, sSegL]
        refine ⟨_, .inl rfl, fun x hx => ?_, ?_⟩
        · obtain ⟨y, _, rfl⟩ := List.mem_map.mp hx; rfl
        rw [inD_strs]
        by_cases c : f ∈ pickG G lk
        · rw [if_pos (decide_eq_true c)]
          refine ⟨⟨_, .inl rfl⟩, _, .inl rfl, c, hB2 _ ?_⟩
          unfold turnN
          rw [if_pos c]; rfl
        · rw [if_neg (by simp [c])]
          refine hB2 _ ?_
          unfold turnN
          rw [if_neg c]; rfl
      rintro _ rfl
      unfold R12
      refine sSeq_rule (fun δ => δ = R12 i zs (.dat (.str f)) v4 G lk kp (.dat (.list ((pickG G lk).map .str))) (.dat (natD (turnN G lk f))) (.own [natD (turnN G lk f), natD (turnN G lk f)]) n2) (fun B2 hB2 _ _ _ => ?_) ?_
      · simp [initA, sRet, dB1, fAll, fAny, dVal, dLc, lLc, iSq, dRd, dVar, dFz, sSeq, sNext, sAsg, sOwn, sIf, sFor, sApp, sRetN, sDrop, sPar, sPar3, dC, dV, dOp, fI, fI0, fEq, fNe, fEqD, fNeD, fIn, dIx, dIxR, dTest, dNot, dAnd, dOr, dYes, dIfE, dAndV, dOrV, dNotV, dNeg, dNil, dCons, dConsR, dStar, dLst, dTup, lLst, lVar, lSl, lList, lCat, dL, dRep, gdName, gdNil, gdCons, gdSq, gdTup, bnd, iRg, iEn, iZp, zLv, dSl, dNoPart, dPart, fSlL, fSlT, fSlS, fLen, fLenA, fLenT, fList, fTuple, dCall0, dCallX, dCallT, WF.wp, lcStep, wipeD, lcOk, isOwn, isOwL, Lv.ch, Lv.sh, sc_n, sc_b, sc_i, sc_s, sc_l, sc_t, scD_ss, scD_ii, scD_bb, eqS_ss, eqS_ii, eqS_bb, isNo, okU, thn_rt, thn_bk, thn_ct, DEnds.loop, sCont, sBreak, fInt1, fMax2, fMin2, fIsi, fIsi2, dSetS, sParN, lRev, dDraw, dNames, dPartT, fSortS, fSortD, fRepr, fInD, fNotT, dTru, fIsB, tru, dSame, dCallK, fInA, dRevT, fRevT, dCount, dCatT, notP_V, notP_R, notP_l, dIdx, sRaise, fSlQ, cutD, true_and, sTry, bDrop, bAsg, bIf, dIsH, dWhat, sPop, sIns, sParO, dLists, lCatL, dCallN, dCallNN, sParD, fMaxI, fSortI, sSeg, dStrewn, sSegB, dRepZ, mDictT, mDict, mVar, dGetI, dGet1, dGet2, dCallM, sMap, dMinIx, dCallP, dCallPX, lkAt, sTupO, sTupM, sPar3N, bAsgP, dCallPK, dCallPP, fSortQ, sTupO, sTupM, sTupE, dIsNoX, sSegL]
        have pt : (wf_turnof T.c_NoFruit).pre (G, lk, f) [grD G, .tuple (lk.map .str), .str f] 0 := ⟨_, _, rfl, gf, .inr rfl, gok, hin, by show lk.length ≤ 100; omega⟩
        refine ⟨(G, lk, f), ⟨_, _, rfl, gf, .inr rfl, gok, hin, by show lk.length ≤ 100; omega⟩, ?_, fun _ _ z => z⟩
        rintro _ _ rfl
        refine ⟨(G, lk, f), pt, ?_, ?_⟩
        · rintro _ _ ⟨_, rfl⟩
          refine ⟨by omega, hB2 _ ?_⟩
          show _ = R12 _ _ _ _ _ _ _ _ _ _ _
          have e : turn12 G lk f = natD (turnN G lk f) := by unfold turn12; rw [if_pos fg]
          rw [show turn12 (G, lk, f).1 (G, lk, f).2.1 (G, lk, f).2.2 = natD (turnN G lk f) from e]
          rfl
        · rintro C d ⟨_, z, _⟩
          exact z fg
      rintro _ rfl
      unfold R12
      simp [initA, sRet, dB1, fAll, fAny, dVal, dLc, lLc, iSq, dRd, dVar, dFz, sSeq, sNext, sAsg, sOwn, sIf, sFor, sApp, sRetN, sDrop, sPar, sPar3, dC, dV, dOp, fI, fI0, fEq, fNe, fEqD, fNeD, fIn, dIx, dIxR, dTest, dNot, dAnd, dOr, dYes, dIfE, dAndV, dOrV, dNotV, dNeg, dNil, dCons, dConsR, dStar, dLst, dTup, lLst, lVar, lSl, lList, lCat, dL, dRep, gdName, gdNil, gdCons, gdSq, gdTup, bnd, iRg, iEn, iZp, zLv, dSl, dNoPart, dPart, fSlL, fSlT, fSlS, fLen, fLenA, fLenT, fList, fTuple, dCall0, dCallX, dCallT, WF.wp, lcStep, wipeD, lcOk, isOwn, isOwL, Lv.ch, Lv.sh, sc_n, sc_b, sc_i, sc_s, sc_l, sc_t, scD_ss, scD_ii, scD_bb, eqS_ss, eqS_ii, eqS_bb, isNo, okU, thn_rt, thn_bk, thn_ct, DEnds.loop, sCont, sBreak, fInt1, fMax2, fMin2, fIsi, fIsi2, dSetS, sParN, lRev, dDraw, dNames, dPartT, fSortS, fSortD, fRepr, fInD, fNotT, dTru, fIsB, tru, dSame, dCallK, fInA, dRevT, fRevT, dCount, dCatT, notP_V, notP_R, notP_l, dIdx, sRaise, fSlQ, cutD, true_and, sTry, bDrop, bAsg, bIf, dIsH, dWhat, sPop, sIns, sParO, dLists, lCatL, dCallN, dCallNN, sParD, fMaxI, fSortI, sSeg, dStrewn, sSegB, dRepZ, mDictT, mDict, mVar, dGetI, dGet1, dGet2, dCallM, sMap, dMinIx, dCallP, dCallPX, lkAt, sTupO, sTupM, sPar3N, bAsgP, dCallPK, dCallPP, fSortQ, sTupO, sTupM, sTupE, dIsNoX, sSegL]
      exact ⟨by omega, deep_l (by simp) (fun d hd => by
        simp only [List.mem_cons, List.not_mem_nil, or_false] at hd
        rcases hd with rfl | rfl <;> exact deep_nat _ _)⟩
    rintro _ ⟨w3, w9, w10, rfl⟩
    unfold R12
    refine sSeq_rule (fun δ => ∃ w4 : AV, δ = R12 i zs w3 w4 G lk kp (.dat (.list ((pickG G lk).map .str))) w9 w10 n2) (fun B1 hB1 _ _ _ => ?_) ?_
    · simp [initA, sRet, dB1, fAll, fAny, dVal, dLc, lLc, iSq, dRd, dVar, dFz, sSeq, sNext, sAsg, sOwn, sIf, sFor, sApp, sRetN, sDrop, sPar, sPar3, dC, dV, dOp, fI, fI0, fEq, fNe, fEqD, fNeD, fIn, dIx, dIxR, dTest, dNot, dAnd, dOr, dYes, dIfE, dAndV, dOrV, dNotV, dNeg, dNil, dCons, dConsR, dStar, dLst, dTup, lLst, lVar, lSl, lList, lCat, dL, dRep, gdName, gdNil, gdCons, gdSq, gdTup, bnd, iRg, iEn, iZp, zLv, dSl, dNoPart, dPart, fSlL, fSlT, fSlS, fLen, fLenA, fLenT, fList, fTuple, dCall0, dCallX, dCallT, WF.wp, lcStep, wipeD, lcOk, isOwn, isOwL, Lv.ch, Lv.sh, sc_n, sc_b, sc_i, sc_s, sc_l, sc_t, scD_ss, scD_ii, scD_bb, eqS_ss, eqS_ii, eqS_bb, isNo, okU, thn_rt, thn_bk, thn_ct, DEnds.loop, sCont, sBreak, fInt1, fMax2, fMin2, fIsi, fIsi2, dSetS, sParN, lRev, dDraw, dNames, dPartT, fSortS, fSortD, fRepr, fInD, fNotT, dTru, fIsB, tru, dSame, dCallK, fInA, dRevT, fRevT, dCount, dCatT, notP_V, notP_R, notP_l, dIdx, sRaise, fSlQ, cutD, true_and, sTry, bDrop, bAsg, bIf, dIsH, dWhat, sPop, sIns, sParO, dLists, lCatL, dCallN, dCallNN, sParD, fMaxI, fSortI, sSeg, dStrewn, sSegB, dRepZ, mDictT, mDict, mVar, dGetI, dGet1, dGet2, dCallM, sMap, dMinIx, dCallP, dCallPX, lkAt, sTupO, sTupM, sPar3N, bAsgP, dCallPK, dCallPP, fSortQ, sTupO, sTupM, sTupE, dIsNoX, sSegL]
      refine ⟨by omega, _, .inr rfl, fun _ δ => ∃ w4 : AV, δ = R12 i zs w3 w4 G lk kp (.dat (.list ((pickG G lk).map .str))) w9 w10 n2, ⟨_, rfl⟩, fun j x δ' ex hI => ?_, fun δ' hI => hB1 _ hI⟩
      obtain ⟨w4, rfl⟩ := hI
      obtain ⟨f, rfl⟩ : ∃ f, x = PyData.str f := by
        have := List.mem_of_getElem? ex
        simp only [List.mem_cons, List.not_mem_nil, or_false] at this
        rcases this with rfl | rfl | rfl | rfl <;> exact ⟨_, rfl⟩
      unfold R12
      refine ⟨_, rfl, ?_⟩
      simp [initA, sRet, dB1, fAll, fAny, dVal, dLc, lLc, iSq, dRd, dVar, dFz, sSeq, sNext, sAsg, sOwn, sIf, sFor, sApp, sRetN, sDrop, sPar, sPar3, dC, dV, dOp, fI, fI0, fEq, fNe, fEqD, fNeD, fIn, dIx, dIxR, dTest, dNot, dAnd, dOr, dYes, dIfE, dAndV, dOrV, dNotV, dNeg, dNil, dCons, dConsR, dStar, dLst, dTup, lLst, lVar, lSl, lList, lCat, dL, dRep, gdName, gdNil, gdCons, gdSq, gdTup, bnd, iRg, iEn, iZp, zLv, dSl, dNoPart, dPart, fSlL, fSlT, fSlS, fLen, fLenA, fLenT, fList, fTuple, dCall0, dCallX, dCallT, WF.wp, lcStep, wipeD, lcOk, isOwn, isOwL, Lv.ch, Lv.sh, sc_n, sc_b, sc_i, sc_s, sc_l, sc_t, scD_ss, scD_ii, scD_bb, eqS_ss, eqS_ii, eqS_bb, isNo, okU, thn_rt, thn_bk, thn_ct, DEnds.loop, sCont, sBreak, fInt1, fMax2, fMin2, fIsi, fIsi2, dSetS, sParN, lRev, dDraw, dNames, dPartT, fSortS, fSortD, fRepr, fInD, fNotT, dTru, fIsB, tru, dSame, dCallK, fInA, dRevT, fRevT, dCount, dCatT, notP_V, notP_R, notP_l, dIdx, sRaise, fSlQ, cutD, true_and, sTry, bDrop, bAsg, bIf, dIsH, dWhat, sPop, sIns, sParO, dLists, lCatL, dCallN, dCallNN, sParD, fMaxI, fSortI, sSeg, dStrewn, sSegB, dRepZ, mDictT, mDict, mVar, dGetI, dGet1, dGet2, dCallM, sMap, dMinIx, dCallP, dCallPX, lkAt, sTupO, sTupM, sPar3N, bAsgP, dCallPK, dCallPP, fSortQ, sTupO, sTupM, sTupE, dIsNoX, sSegL]
      refine ⟨_, .inl rfl, fun x hx => ?_, ?_⟩
      · obtain ⟨y, _, rfl⟩ := List.mem_map.mp hx; rfl
      rw [inD_strs]
      by_cases c : f ∈ zs
      · exact .inl (decide_eq_true c)
      · refine .inr ⟨decide_eq_false c, (G, lk, f), ⟨_, _, rfl, gf, .inr rfl, gok, hin, by show lk.length ≤ 100; omega⟩, ?_, fun _ _ z => z⟩
        rintro _ _ rfl
        have e : turn12 G lk f = .tuple [.str (Str.ofString "none"), .str f] := by unfold turn12; rw [if_neg (fun z => c (hG.pm.mem_iff.mp z))]
        rw [show turn12 (G, lk, f).1 (G, lk, f).2.1 (G, lk, f).2.2 = _ from e]
        exact ⟨by omega, rfl, deep_gr_none f⟩
    rintro _ ⟨w4, rfl⟩
    unfold R12
    simp [initA, sRet, dB1, fAll, fAny, dVal, dLc, lLc, iSq, dRd, dVar, dFz, sSeq, sNext, sAsg, sOwn, sIf, sFor, sApp, sRetN, sDrop, sPar, sPar3, dC, dV, dOp, fI, fI0, fEq, fNe, fEqD, fNeD, fIn, dIx, dIxR, dTest, dNot, dAnd, dOr, dYes, dIfE, dAndV, dOrV, dNotV, dNeg, dNil, dCons, dConsR, dStar, dLst, dTup, lLst, lVar, lSl, lList, lCat, dL, dRep, gdName, gdNil, gdCons, gdSq, gdTup, bnd, iRg, iEn, iZp, zLv, dSl, dNoPart, dPart, fSlL, fSlT, fSlS, fLen, fLenA, fLenT, fList, fTuple, dCall0, dCallX, dCallT, WF.wp, lcStep, wipeD, lcOk, isOwn, isOwL, Lv.ch, Lv.sh, sc_n, sc_b, sc_i, sc_s, sc_l, sc_t, scD_ss, scD_ii, scD_bb, eqS_ss, eqS_ii, eqS_bb, isNo, okU, thn_rt, thn_bk, thn_ct, DEnds.loop, sCont, sBreak, fInt1, fMax2, fMin2, fIsi, fIsi2, dSetS, sParN, lRev, dDraw, dNames, dPartT, fSortS, fSortD, fRepr, fInD, fNotT, dTru, fIsB, tru, dSame, dCallK, fInA, dRevT, fRevT, dCount, dCatT, notP_V, notP_R, notP_l, dIdx, sRaise, fSlQ, cutD, true_and, sTry, bDrop, bAsg, bIf, dIsH, dWhat, sPop, sIns, sParO, dLists, lCatL, dCallN, dCallNN, sParD, fMaxI, fSortI, sSeg, dStrewn, sSegB, dRepZ, mDictT, mDict, mVar, dGetI, dGet1, dGet2, dCallM, sMap, dMinIx, dCallP, dCallPX, lkAt, sTupO, sTupM, sPar3N, bAsgP, dCallPK, dCallPP, fSortQ, sTupO, sTupM, sTupE, dIsNoX, sSegL]
    refine ⟨by omega, f0.show_, f0.nod, by have := f0.dep; omega, f0.fits (by decide) (by decide), .inl ⟨hK, by omega⟩⟩
  · simp [initA, sRet, dB1, fAll, fAny, dVal, dLc, lLc, iSq, dRd, dVar, dFz, sSeq, sNext, sAsg, sOwn, sIf, sFor, sApp, sRetN, sDrop, sPar, sPar3, dC, dV, dOp, fI, fI0, fEq, fNe, fEqD, fNeD, fIn, dIx, dIxR, dTest, dNot, dAnd, dOr, dYes, dIfE, dAndV, dOrV, dNotV, dNeg, dNil, dCons, dConsR, dStar, dLst, dTup, lLst, lVar, lSl, lList, lCat, dL, dRep, gdName, gdNil, gdCons, gdSq, gdTup, bnd, iRg, iEn, iZp, zLv, dSl, dNoPart, dPart, fSlL, fSlT, fSlS, fLen, fLenA, fLenT, fList, fTuple, dCall0, dCallX, dCallT, WF.wp, lcStep, wipeD, lcOk, isOwn, isOwL, Lv.ch, Lv.sh, sc_n, sc_b, sc_i, sc_s, sc_l, sc_t, scD_ss, scD_ii, scD_bb, eqS_ss, eqS_ii, eqS_bb, isNo, okU, thn_rt, thn_bk, thn_ct, DEnds.loop, sCont, sBreak, fInt1, fMax2, fMin2, fIsi, fIsi2, dSetS, sParN, lRev, dDraw, dNames, dPartT, fSortS, fSortD, fRepr, fInD, fNotT, dTru, fIsB, tru, dSame, dCallK, fInA, dRevT, fRevT, dCount, dCatT, notP_V, notP_R, notP_l, dIdx, sRaise, fSlQ, cutD, true_and, sTry, bDrop, bAsg, bIf, dIsH, dWhat, sPop, sIns, sParO, dLists, lCatL, dCallN, dCallNN, sParD, fMaxI, fSortI, sSeg, dStrewn, sSegB, dRepZ, mDictT, mDict, mVar, dGetI, dGet1, dGet2, dCallM, sMap, dMinIx, dCallP, dCallPX, lkAt, sTupO, sTupM, sPar3N, bAsgP, dCallPK, dCallPP, fSortQ, sTupO, sTupM, sTupE, dIsNoX, sSegL]
    rfl
end
theorem sc_law : FnScope ["_law_script", "_law_cells", "_law_k"] ["_law_script"] (defScope s_law) := ⟨rfl, rfl, rfl, by decide +kernel, rfl, by decide +kernel, by decide +kernel⟩
section
variable {P : Program} {w : World} {K : PySem.W.Frag} {mg : Str → Option Value} {base : Heap}
def sp_law (K : PySem.W.Frag) (P : Addr) : Sp := fun vs H Q _ => ∃ (a : Addr) (ns : List Int), vs = [.ref a] ∧ SqL K H a (ns.map V.int) ∧ ns.length ≤ 63 ∧ LamX.TabS H P qPB ∧ ∀ H', Q (.bl true) H'
def Plaw (P c : Addr) (cs : List Int) (D : Addr) (i : Nat) (H' : Hp) : Prop := LamX.TabS H' P qPB ∧ H' c = some (.lst (cs.map V.int)) ∧ H' D = some (.lst (List.replicate i (V.bl true)))
theorem ok_law (T : Txt K mg) (TB : LamX.TabB base mg T.cp_passed_by T.tp_passed_by) : FnOkG P w K mg base CX0 14 T.f_law T.fd_law ["_law_script"] (sp_law K T.tp_passed_by) := by
  refine okG T.F_law sc_law (fun vs H Q E h => ?_) (fun cdv A outer s H vs Q E noRepr hr h => ?_)
  · obtain ⟨a, ns, rfl, _⟩ := h
    rfl
  · obtain ⟨a, ns, rfl, hS, hlen, hT, q⟩ := h
    refine ⟨_, (pss_cons (ps_set (i := 1) sc_law.nd rfl (by first | exact Or.inl rfl | exact Or.inr rfl) (pe_call (ok__law_folded T) (hr.mono (by decide)) (by rfl) T.g__law_folded T.F__law_folded.kp T.b__law_folded .nil pass0 (pa_cons (pv 0) (pa_cons pe_int pa_nil))))
      (pss_one (ps_ret (pe_callB (cr_all rfl) (by rfl) T.m_all (by decide +kernel) (pa_cons (pe_lc (own := [("_law_k", 2)]) (g := (gName 2)) (tt := tYes) (te := (tCall (spTP K T.tp_passed_by qPB [] wf_right) [] E0 (tCons (tCall (sp__law_tape K) [] E0 (tCons (tVar 1) (tCons (tVar 2) tNil))) tNil))) (by rfl) sc_law.nd (pi_range1 (by rfl) T.m_range (pa_cons (pe_callB (call_max2 rfl) (by rfl) T.m_max (by decide +kernel) (pa_cons pe_int (pa_cons (pe_callB call_len_seq (by rfl) T.m_len (by decide +kernel) (pa_cons (pv 1) pa_nil)) pa_nil))) pa_nil)) (blkOk_by (own := [("_law_k", 2)]) (N := ["_law_script", "_law_cells", "_law_k"]) (sc := defScope s_law) (by decide +kernel)) (fun _ _ _ _ _ => (pg_name (i := 2) sc_law.nd rfl (by first | exact Or.inl rfl | exact Or.inr rfl))) (fun _ _ _ _ _ => pts_nil) (fun _ _ _ _ _ => (pe_callG (ok__law_right T TB) noRepr (hr.mono (by decide)) (by rfl) T.g__law_right T.F__law_right.kp T.b__law_right pass0 (pa_cons (pe_call (ok__law_tape T) (hr.mono (by decide)) (by rfl) T.g__law_tape T.F__law_tape.kp T.b__law_tape .nil pass0 (pa_cons (pv 1) (pa_cons (pv 2) pa_nil))) pa_nil)))) pa_nil))))), ?_⟩
    simp [tSeq, tAsg, tIf, tIfS, tVar, tC, tOp, tUn, rI, rI0, rU, tCB, tCons, tNil, tLst, tTup, tRet, gName, gCons, gNil, gSub, rSetL, tTest, tB, tNot, tAnd, tOr, tAndV, tOrV, tNotV, tNext, tDrop, tCall, tCallK, gKbV, tSl, tNoPart, tPart, tPar, rEq, rNe, tLc_eq, tFor_eq, iRng1, L2.start, cxOf, Cx.nox, StX.tStar]
    refine ⟨a, ns, 3, rfl, hS, hlen, by decide, by decide, fun c H1 cs lcs _ nc s1 hc => ?_⟩
    refine ⟨c, rfl, _, .inl (.inl (.inl hc)), 1, _, ⟨rfl, rfl⟩, ?_, ?_, ?_⟩
    · split <;> omega
    · split
      · rw [List.length_map]; omega
      · omega
    · generalize hn : (if (1 : Int) < ((cs.map V.int).length : Nat) then (((cs.map V.int).length : Nat) : Int) else 1).toNat = n
      have n2 : n ≤ 3 := by
        rw [← hn]
        rw [List.length_map]
        split <;> omega
      refine lcK (walk_range (lo := 0) (n := n)) (Plaw T.tp_passed_by c cs) (fun D nD => ⟨(hT.ext s1).ext (Same.new nD), by rw [upd_ne (ne_of_none hc nD)]; exact hc, upd_same⟩) (fun _ _ _ _ _ => trivial) (fun D i x Ha Hb nD hi hp hy => ?_) (fun D Ha nD hp => ?_)
      · obtain ⟨rfl, rfl⟩ := hy
        obtain ⟨e0, e1, e2⟩ := hp
        simp [tSeq, tAsg, tIf, tIfS, tVar, tC, tOp, tUn, rI, rI0, rU, tCB, tCons, tNil, tLst, tTup, tRet, gName, gCons, gNil, gSub, rSetL, tTest, tB, tNot, tAnd, tOr, tAndV, tOrV, tNotV, tNext, tDrop, tCall, tCallK, gKbV, tSl, tNoPart, tPart, tPar, rEq, rNe, tLc_eq, tFor_eq, iRng1, L2.start, cxOf, Cx.nox, StX.tStar, wipe, tYes]
        refine ⟨c, cs, i, rfl, .inl (.inl e1), by omega, by omega, fun t nt H2 T2 k2 => ?_⟩
        have tab2 : LamX.TabS H2 T.tp_passed_by qPB := e0.ext fun b o e => by rw [k2 _ (ne_of_none e nt)]; exact e
        refine ⟨t, [], fun _ => none, [], 0, rfl, T2, tab2, rfl, (fun _ _ z => nomatch z), rfl, trivial, (0 : Nat), ⟨rfl, rfl, by decide⟩, ?_, fun _ _ z => z⟩
        rintro _ n1 rfl v H3 x3 _ tab3 dv
        have nP : ∀ {b : Addr} {xs : List V}, H2 b = some (.lst xs) → b ≠ T.tp_passed_by := fun {b xs} e z => by
          obtain ⟨ps, e', _⟩ := tab2
          rw [z, e'] at e; cases e
        have ev : v = V.bl true := by
          have := bools_of (bs := [true]) (vs := [v]) (.cons dv .nil)
          simpa using this
        subst ev
        have e1' : H3 c = some (.lst (cs.map V.int)) := x3 _ _ (ne_of_none e1 nt) (nP (by rw [k2 _ (ne_of_none e1 nt)]; exact e1)) (by rw [k2 _ (ne_of_none e1 nt)]; exact e1)
        have e2' : H3 D = some (.lst (List.replicate i (V.bl true))) := x3 _ _ (ne_of_none e2 nt) (nP (by rw [k2 _ (ne_of_none e2 nt)]; exact e2)) (by rw [k2 _ (ne_of_none e2 nt)]; exact e2)
        refine ⟨_, e2', by rw [List.length_replicate, sizeLine_eq]; omega, TabS.lst tab3 (fun b o e no => by rw [upd_ne (fun z => no _ (by rw [z, e2'] at e; exact (Option.some.inj e).symm))]; exact e), ?_, ?_⟩
        · rw [upd_ne (fun z => by rw [z] at hc; rw [hc] at nD; cases nD)]; exact e1'
        · rw [upd_same]; simp [List.replicate_succ']
      · refine ⟨D, List.replicate n true, rfl, .inl (.inl ?_), ?_⟩
        · rw [hp.2.2, List.map_replicate]
        · rw [show (List.replicate n true).all id = true by simp]
          exact q _
end
theorem rev_rel : ∀ {vs : List V} {us : List Value}, Vals vs us → Vals vs.reverse us.reverse
  | _, _, .nil => .nil
  | _, _, .cons r t => by
    rw [List.reverse_cons, List.reverse_cons]
    exact (rev_rel t).append (.cons r .nil)
theorem gKb_rel {vs zs : List V} {us ws : List Value} (h1 : Vals vs us) (h2 : Vals zs ws) : Vals (gKbV vs zs) (gKb us ws) := by
  cases h1 with
  | nil => exact rev_rel h2
  | cons r t => exact .nil
theorem all_mk {l : PySem.W.OpenLaw} {w : World} {K : PySem.W.Frag} {h : Heap} {mg : Str → Option Value} {fa f_is_within f_fruits_of f_others f_refuse_unknown f_has_one_within f_ripe f_pick f_passed_by f_turn_of f__law_tape f__law_draw f__law_folded f__law_names f__law_part f__law_same f__law_least f__law_within f__law_orchard f__law_ripe f__law_picked f__law_turn f__law_lists f__law_passed f__law_told_right f__law_right f_law c_NoFruit c_NoRow : Addr} (X : K.In h) (G : h.Ns mainGlobals mg) (hfa : mg "law" = some (.ref fa))
    {cp_passed_by tp_passed_by : Addr}
    {od0 an0 od1 an1 od2 an2 od3 an3 od4 an4 od5 an5 od6 an6 od7 an7 od8 an8 od9 an9 od10 an10 od11 an11 od12 an12 od13 an13 od14 an14 od15 an15 od16 an16 od17 an17 od18 an18 od19 an19 od20 an20 od21 an21 od22 an22 od23 an23 od24 an24 od25 an25 : Option Addr} {sl0 sl1 sl2 sl3 sl4 sl5 sl6 sl7 sl8 sl9 sl10 sl11 sl12 sl13 sl14 sl15 sl16 sl17 sl18 sl19 sl20 sl21 sl22 sl23 sl24 sl25 : Array (Option Value)} {oc0 kV0 dc0 pm0 cd0 ct0 oc1 kV1 dc1 pm1 cd1 ct1 oc2 kV2 dc2 pm2 cd2 ct2 oc3 kV3 dc3 pm3 cd3 ct3 oc4 kV4 dc4 pm4 cd4 ct4 oc5 kV5 dc5 pm5 cd5 ct5 oc6 kV6 dc6 pm6 cd6 ct6 oc7 kV7 dc7 pm7 ct7 oc8 kV8 dc8 pm8 cd8 ct8 oc9 kV9 dc9 pm9 cd9 ct9 oc10 kV10 dc10 pm10 cd10 ct10 oc11 kV11 dc11 pm11 cd11 ct11 oc12 kV12 dc12 pm12 cd12 ct12 oc13 kV13 dc13 pm13 cd13 ct13 oc14 kV14 dc14 pm14 cd14 ct14 oc15 kV15 dc15 pm15 cd15 ct15 oc16 kV16 dc16 pm16 cd16 ct16 oc17 kV17 dc17 pm17 cd17 ct17 oc18 kV18 dc18 pm18 cd18 ct18 oc19 kV19 dc19 pm19 cd19 ct19 oc20 kV20 dc20 pm20 cd20 ct20 oc21 kV21 dc21 pm21 cd21 ct21 oc22 kV22 dc22 pm22 cd22 ct22 oc23 kV23 dc23 pm23 cd23 ct23 oc24 kV24 dc24 pm24 cd24 ct24 oc25 kV25 dc25 pm25 cd25 ct25 : Value}
    (a0 : PySem.W.nsIn K mainGlobals "is_within" = some (some (.ref f_is_within))) (l0 : K.lookup f_is_within = some ⟨oc0, od0, .func (PySem.W.fnOf "is_within" "is_within" (defArgs s_is_within) (defBody s_is_within) (defScope s_is_within) .none kV0 dc0 pm0 an0 cd0 ct0), sl0⟩) (c0 : PySem.W.codeIn K cd0 "is_within" = true) (k0 : PySem.W.keepIn K (.ref f_is_within) = true)
    (a1 : PySem.W.nsIn K mainGlobals "fruits_of" = some (some (.ref f_fruits_of))) (l1 : K.lookup f_fruits_of = some ⟨oc1, od1, .func (PySem.W.fnOf "fruits_of" "fruits_of" (defArgs s_fruits_of) (defBody s_fruits_of) (defScope s_fruits_of) .none kV1 dc1 pm1 an1 cd1 ct1), sl1⟩) (c1 : PySem.W.codeIn K cd1 "fruits_of" = true) (k1 : PySem.W.keepIn K (.ref f_fruits_of) = true)
    (a2 : PySem.W.nsIn K mainGlobals "others" = some (some (.ref f_others))) (l2 : K.lookup f_others = some ⟨oc2, od2, .func (PySem.W.fnOf "others" "others" (defArgs s_others) (defBody s_others) (defScope s_others) .none kV2 dc2 pm2 an2 cd2 ct2), sl2⟩) (c2 : PySem.W.codeIn K cd2 "others" = true) (k2 : PySem.W.keepIn K (.ref f_others) = true)
    (a3 : PySem.W.nsIn K mainGlobals "refuse_unknown" = some (some (.ref f_refuse_unknown))) (l3 : K.lookup f_refuse_unknown = some ⟨oc3, od3, .func (PySem.W.fnOf "refuse_unknown" "refuse_unknown" (defArgs s_refuse_unknown) (defBody s_refuse_unknown) (defScope s_refuse_unknown) .none kV3 dc3 pm3 an3 cd3 ct3), sl3⟩) (c3 : PySem.W.codeIn K cd3 "refuse_unknown" = true) (k3 : PySem.W.keepIn K (.ref f_refuse_unknown) = true)
    (a4 : PySem.W.nsIn K mainGlobals "has_one_within" = some (some (.ref f_has_one_within))) (l4 : K.lookup f_has_one_within = some ⟨oc4, od4, .func (PySem.W.fnOf "has_one_within" "has_one_within" (defArgs s_has_one_within) (defBody s_has_one_within) (defScope s_has_one_within) .none kV4 dc4 pm4 an4 cd4 ct4), sl4⟩) (c4 : PySem.W.codeIn K cd4 "has_one_within" = true) (k4 : PySem.W.keepIn K (.ref f_has_one_within) = true)
    (a5 : PySem.W.nsIn K mainGlobals "ripe" = some (some (.ref f_ripe))) (l5 : K.lookup f_ripe = some ⟨oc5, od5, .func (PySem.W.fnOf "ripe" "ripe" (defArgs s_ripe) (defBody s_ripe) (defScope s_ripe) .none kV5 dc5 pm5 an5 cd5 ct5), sl5⟩) (c5 : PySem.W.codeIn K cd5 "ripe" = true) (k5 : PySem.W.keepIn K (.ref f_ripe) = true)
    (a6 : PySem.W.nsIn K mainGlobals "pick" = some (some (.ref f_pick))) (l6 : K.lookup f_pick = some ⟨oc6, od6, .func (PySem.W.fnOf "pick" "pick" (defArgs s_pick) (defBody s_pick) (defScope s_pick) .none kV6 dc6 pm6 an6 cd6 ct6), sl6⟩) (c6 : PySem.W.codeIn K cd6 "pick" = true) (k6 : PySem.W.keepIn K (.ref f_pick) = true)
    (a7 : PySem.W.nsIn K mainGlobals "passed_by" = some (some (.ref f_passed_by))) (l7 : K.lookup f_passed_by = some ⟨oc7, od7, .func (PySem.W.fnOf "passed_by" "passed_by" (defArgs s_passed_by) (defBody s_passed_by) (defScope s_passed_by) .none kV7 dc7 pm7 an7 (.ref cp_passed_by) ct7), sl7⟩) (c7 : PySem.W.codeIn K (.ref cp_passed_by) "passed_by" = true) (k7 : PySem.W.keepIn K (.ref f_passed_by) = true)
    (a8 : PySem.W.nsIn K mainGlobals "turn_of" = some (some (.ref f_turn_of))) (l8 : K.lookup f_turn_of = some ⟨oc8, od8, .func (PySem.W.fnOf "turn_of" "turn_of" (defArgs s_turn_of) (defBody s_turn_of) (defScope s_turn_of) .none kV8 dc8 pm8 an8 cd8 ct8), sl8⟩) (c8 : PySem.W.codeIn K cd8 "turn_of" = true) (k8 : PySem.W.keepIn K (.ref f_turn_of) = true)
    (a9 : PySem.W.nsIn K mainGlobals "_law_tape" = some (some (.ref f__law_tape))) (l9 : K.lookup f__law_tape = some ⟨oc9, od9, .func (PySem.W.fnOf "_law_tape" "_law_tape" (defArgs s__law_tape) (defBody s__law_tape) (defScope s__law_tape) .none kV9 dc9 pm9 an9 cd9 ct9), sl9⟩) (c9 : PySem.W.codeIn K cd9 "_law_tape" = true) (k9 : PySem.W.keepIn K (.ref f__law_tape) = true)
    (a10 : PySem.W.nsIn K mainGlobals "_law_draw" = some (some (.ref f__law_draw))) (l10 : K.lookup f__law_draw = some ⟨oc10, od10, .func (PySem.W.fnOf "_law_draw" "_law_draw" (defArgs s__law_draw) (defBody s__law_draw) (defScope s__law_draw) .none kV10 dc10 pm10 an10 cd10 ct10), sl10⟩) (c10 : PySem.W.codeIn K cd10 "_law_draw" = true) (k10 : PySem.W.keepIn K (.ref f__law_draw) = true)
    (a11 : PySem.W.nsIn K mainGlobals "_law_folded" = some (some (.ref f__law_folded))) (l11 : K.lookup f__law_folded = some ⟨oc11, od11, .func (PySem.W.fnOf "_law_folded" "_law_folded" (defArgs s__law_folded) (defBody s__law_folded) (defScope s__law_folded) .none kV11 dc11 pm11 an11 cd11 ct11), sl11⟩) (c11 : PySem.W.codeIn K cd11 "_law_folded" = true) (k11 : PySem.W.keepIn K (.ref f__law_folded) = true)
    (a12 : PySem.W.nsIn K mainGlobals "_law_names" = some (some (.ref f__law_names))) (l12 : K.lookup f__law_names = some ⟨oc12, od12, .func (PySem.W.fnOf "_law_names" "_law_names" (defArgs s__law_names) (defBody s__law_names) (defScope s__law_names) .none kV12 dc12 pm12 an12 cd12 ct12), sl12⟩) (c12 : PySem.W.codeIn K cd12 "_law_names" = true) (k12 : PySem.W.keepIn K (.ref f__law_names) = true)
    (a13 : PySem.W.nsIn K mainGlobals "_law_part" = some (some (.ref f__law_part))) (l13 : K.lookup f__law_part = some ⟨oc13, od13, .func (PySem.W.fnOf "_law_part" "_law_part" (defArgs s__law_part) (defBody s__law_part) (defScope s__law_part) .none kV13 dc13 pm13 an13 cd13 ct13), sl13⟩) (c13 : PySem.W.codeIn K cd13 "_law_part" = true) (k13 : PySem.W.keepIn K (.ref f__law_part) = true)
    (a14 : PySem.W.nsIn K mainGlobals "_law_same" = some (some (.ref f__law_same))) (l14 : K.lookup f__law_same = some ⟨oc14, od14, .func (PySem.W.fnOf "_law_same" "_law_same" (defArgs s__law_same) (defBody s__law_same) (defScope s__law_same) .none kV14 dc14 pm14 an14 cd14 ct14), sl14⟩) (c14 : PySem.W.codeIn K cd14 "_law_same" = true) (k14 : PySem.W.keepIn K (.ref f__law_same) = true)
    (a15 : PySem.W.nsIn K mainGlobals "_law_least" = some (some (.ref f__law_least))) (l15 : K.lookup f__law_least = some ⟨oc15, od15, .func (PySem.W.fnOf "_law_least" "_law_least" (defArgs s__law_least) (defBody s__law_least) (defScope s__law_least) .none kV15 dc15 pm15 an15 cd15 ct15), sl15⟩) (c15 : PySem.W.codeIn K cd15 "_law_least" = true) (k15 : PySem.W.keepIn K (.ref f__law_least) = true)
    (a16 : PySem.W.nsIn K mainGlobals "_law_within" = some (some (.ref f__law_within))) (l16 : K.lookup f__law_within = some ⟨oc16, od16, .func (PySem.W.fnOf "_law_within" "_law_within" (defArgs s__law_within) (defBody s__law_within) (defScope s__law_within) .none kV16 dc16 pm16 an16 cd16 ct16), sl16⟩) (c16 : PySem.W.codeIn K cd16 "_law_within" = true) (k16 : PySem.W.keepIn K (.ref f__law_within) = true)
    (a17 : PySem.W.nsIn K mainGlobals "_law_orchard" = some (some (.ref f__law_orchard))) (l17 : K.lookup f__law_orchard = some ⟨oc17, od17, .func (PySem.W.fnOf "_law_orchard" "_law_orchard" (defArgs s__law_orchard) (defBody s__law_orchard) (defScope s__law_orchard) .none kV17 dc17 pm17 an17 cd17 ct17), sl17⟩) (c17 : PySem.W.codeIn K cd17 "_law_orchard" = true) (k17 : PySem.W.keepIn K (.ref f__law_orchard) = true)
    (a18 : PySem.W.nsIn K mainGlobals "_law_ripe" = some (some (.ref f__law_ripe))) (l18 : K.lookup f__law_ripe = some ⟨oc18, od18, .func (PySem.W.fnOf "_law_ripe" "_law_ripe" (defArgs s__law_ripe) (defBody s__law_ripe) (defScope s__law_ripe) .none kV18 dc18 pm18 an18 cd18 ct18), sl18⟩) (c18 : PySem.W.codeIn K cd18 "_law_ripe" = true) (k18 : PySem.W.keepIn K (.ref f__law_ripe) = true)
    (a19 : PySem.W.nsIn K mainGlobals "_law_picked" = some (some (.ref f__law_picked))) (l19 : K.lookup f__law_picked = some ⟨oc19, od19, .func (PySem.W.fnOf "_law_picked" "_law_picked" (defArgs s__law_picked) (defBody s__law_picked) (defScope s__law_picked) .none kV19 dc19 pm19 an19 cd19 ct19), sl19⟩) (c19 : PySem.W.codeIn K cd19 "_law_picked" = true) (k19 : PySem.W.keepIn K (.ref f__law_picked) = true)
    (a20 : PySem.W.nsIn K mainGlobals "_law_turn" = some (some (.ref f__law_turn))) (l20 : K.lookup f__law_turn = some ⟨oc20, od20, .func (PySem.W.fnOf "_law_turn" "_law_turn" (defArgs s__law_turn) (defBody s__law_turn) (defScope s__law_turn) .none kV20 dc20 pm20 an20 cd20 ct20), sl20⟩) (c20 : PySem.W.codeIn K cd20 "_law_turn" = true) (k20 : PySem.W.keepIn K (.ref f__law_turn) = true)
    (a21 : PySem.W.nsIn K mainGlobals "_law_lists" = some (some (.ref f__law_lists))) (l21 : K.lookup f__law_lists = some ⟨oc21, od21, .func (PySem.W.fnOf "_law_lists" "_law_lists" (defArgs s__law_lists) (defBody s__law_lists) (defScope s__law_lists) .none kV21 dc21 pm21 an21 cd21 ct21), sl21⟩) (c21 : PySem.W.codeIn K cd21 "_law_lists" = true) (k21 : PySem.W.keepIn K (.ref f__law_lists) = true)
    (a22 : PySem.W.nsIn K mainGlobals "_law_passed" = some (some (.ref f__law_passed))) (l22 : K.lookup f__law_passed = some ⟨oc22, od22, .func (PySem.W.fnOf "_law_passed" "_law_passed" (defArgs s__law_passed) (defBody s__law_passed) (defScope s__law_passed) .none kV22 dc22 pm22 an22 cd22 ct22), sl22⟩) (c22 : PySem.W.codeIn K cd22 "_law_passed" = true) (k22 : PySem.W.keepIn K (.ref f__law_passed) = true)
    (a23 : PySem.W.nsIn K mainGlobals "_law_told_right" = some (some (.ref f__law_told_right))) (l23 : K.lookup f__law_told_right = some ⟨oc23, od23, .func (PySem.W.fnOf "_law_told_right" "_law_told_right" (defArgs s__law_told_right) (defBody s__law_told_right) (defScope s__law_told_right) .none kV23 dc23 pm23 an23 cd23 ct23), sl23⟩) (c23 : PySem.W.codeIn K cd23 "_law_told_right" = true) (k23 : PySem.W.keepIn K (.ref f__law_told_right) = true)
    (a24 : PySem.W.nsIn K mainGlobals "_law_right" = some (some (.ref f__law_right))) (l24 : K.lookup f__law_right = some ⟨oc24, od24, .func (PySem.W.fnOf "_law_right" "_law_right" (defArgs s__law_right) (defBody s__law_right) (defScope s__law_right) .none kV24 dc24 pm24 an24 cd24 ct24), sl24⟩) (c24 : PySem.W.codeIn K cd24 "_law_right" = true) (k24 : PySem.W.keepIn K (.ref f__law_right) = true)
    (a25 : PySem.W.nsIn K mainGlobals "law" = some (some (.ref f_law))) (l25 : K.lookup f_law = some ⟨oc25, od25, .func (PySem.W.fnOf "law" "law" (defArgs s_law) (defBody s_law) (defScope s_law) .none kV25 dc25 pm25 an25 cd25 ct25), sl25⟩) (c25 : PySem.W.codeIn K cd25 "law" = true) (k25 : PySem.W.keepIn K (.ref f_law) = true)
    (ac_NoFruit : PySem.W.nsIn K mainGlobals "NoFruit" = some (some (.ref c_NoFruit)))
    (ac_NoRow : PySem.W.nsIn K mainGlobals "NoRow" = some (some (.ref c_NoRow)))
    (z_len : PySem.W.nsIn K mainGlobals "len" = some none)
    (z_sum : PySem.W.nsIn K mainGlobals "sum" = some none)
    (z_abs : PySem.W.nsIn K mainGlobals "abs" = some none)
    (z_int : PySem.W.nsIn K mainGlobals "int" = some none)
    (z_list : PySem.W.nsIn K mainGlobals "list" = some none)
    (z_tuple : PySem.W.nsIn K mainGlobals "tuple" = some none)
    (z_all : PySem.W.nsIn K mainGlobals "all" = some none)
    (z_any : PySem.W.nsIn K mainGlobals "any" = some none)
    (z_isinstance : PySem.W.nsIn K mainGlobals "isinstance" = some none)
    (z_max : PySem.W.nsIn K mainGlobals "max" = some none)
    (z_min : PySem.W.nsIn K mainGlobals "min" = some none)
    (z_range : PySem.W.nsIn K mainGlobals "range" = some none)
    (z_enumerate : PySem.W.nsIn K mainGlobals "enumerate" = some none)
    (z_zip : PySem.W.nsIn K mainGlobals "zip" = some none)
    (z_str : PySem.W.nsIn K mainGlobals "str" = some none)
    (z_bool : PySem.W.nsIn K mainGlobals "bool" = some none)
    (z_LookupError : PySem.W.nsIn K mainGlobals "LookupError" = some none)
    (z_ValueError : PySem.W.nsIn K mainGlobals "ValueError" = some none)
    (z_repr : PySem.W.nsIn K mainGlobals "repr" = some none)
    (z_sorted : PySem.W.nsIn K mainGlobals "sorted" = some none)
    (z_set : PySem.W.nsIn K mainGlobals "set" = some none)
    {ec_passed_by : Value} {ed_passed_by : Option Addr} {ev_passed_by : Array Value} {es_passed_by : Array (Option Value)} (lc_passed_by : K.lookup cp_passed_by = some ⟨ec_passed_by, ed_passed_by, .fields ev_passed_by, es_passed_by⟩) (vp_passed_by : ev_passed_by[11]? = some (.ref tp_passed_by)) (nk_passed_by : K.lookup tp_passed_by = none)
    {nm_NoFruit q_NoFruit : Str} {N_NoFruit i_NoFruit : Addr} {bs_NoFruit sub_NoFruit : List Value} {sn_NoFruit : List Str} {ab_NoFruit : Bool} {col_NoFruit : Option Bool} {dd_NoFruit od_NoFruit an_NoFruit : Option Addr} {m0_NoFruit m1_NoFruit m2_NoFruit m3_NoFruit m5_NoFruit : Option Value} {sl_NoFruit : Array (Option Value)} {oc_NoFruit dc_NoFruit pm_NoFruit cd_NoFruit ct_NoFruit : Value}
    (xL_NoFruit : K.lookup c_NoFruit = some (excClassObj nm_NoFruit q_NoFruit c_NoFruit N_NoFruit bs_NoFruit [.type "LookupError", .type "Exception", .type "BaseException", .type "object"] true sn_NoFruit sub_NoFruit ab_NoFruit col_NoFruit dd_NoFruit m0_NoFruit m1_NoFruit m2_NoFruit m3_NoFruit m5_NoFruit "LookupError.__new__"))
    (sa_NoFruit : PySem.W.findIn K (.ref c_NoFruit) "__setattr__" = some (some (.builtin "object.__setattr__")))
    (ga_NoFruit : PySem.W.findIn K (.ref c_NoFruit) "__getattribute__" = some (some (.builtin "BaseException.__getattribute__")))
    (gg_NoFruit : PySem.W.findIn K (.ref c_NoFruit) "__getattr__" = some none)
    (nb_NoFruit : PySem.W.findIn K (.ref c_NoFruit) "what" = some none)
    (ai_NoFruit : PySem.W.findIn K (.ref c_NoFruit) "__init__" = some (some (.ref i_NoFruit)))
    (ti_NoFruit : PySem.W.typeIn K (.ref i_NoFruit) = some (.type "function"))
    (li_NoFruit : K.lookup i_NoFruit = some ⟨oc_NoFruit, od_NoFruit, .func (PySem.W.fnOf "__init__" "NoFruit.__init__" (PySem.WhatX.iA ⟨4, 17, 4, 21⟩ ⟨4, 23, 4, 27⟩) (PySem.WhatX.iB ⟨5, 8, 5, 12⟩ ⟨5, 8, 5, 17⟩ ⟨5, 20, 5, 24⟩ ⟨5, 8, 5, 24⟩) PySem.WhatX.iS .none .none dc_NoFruit pm_NoFruit an_NoFruit cd_NoFruit ct_NoFruit), sl_NoFruit⟩)
    (ci_NoFruit : PySem.W.codeIn K cd_NoFruit "NoFruit.__init__" = true)
    (kc_NoFruit : PySem.W.keepIn K (.ref c_NoFruit) = true)
    (ec_NoFruit : PySem.W.subIn K (.ref c_NoFruit) (.type "BaseException") = some true)
    (tc_NoFruit : PySem.W.typeIn K (.ref c_NoFruit) = some (.type "type"))
    (hc_NoFruit : PySem.W.hasDictIn K c_NoFruit = true)
    (ha_NoFruit : PySem.W.findIn K (.ref c_NoFruit) "__class__" = some (some (.builtin "object.__class__")))
    (hm_NoFruit : PySem.W.mroIn K c_NoFruit (.type "object") = some true)
    {nm_NoRow q_NoRow : Str} {N_NoRow i_NoRow : Addr} {bs_NoRow sub_NoRow : List Value} {sn_NoRow : List Str} {ab_NoRow : Bool} {col_NoRow : Option Bool} {dd_NoRow od_NoRow an_NoRow : Option Addr} {m0_NoRow m1_NoRow m2_NoRow m3_NoRow m5_NoRow : Option Value} {sl_NoRow : Array (Option Value)} {oc_NoRow dc_NoRow pm_NoRow cd_NoRow ct_NoRow : Value}
    (xL_NoRow : K.lookup c_NoRow = some (excClassObj nm_NoRow q_NoRow c_NoRow N_NoRow bs_NoRow [.type "LookupError", .type "Exception", .type "BaseException", .type "object"] true sn_NoRow sub_NoRow ab_NoRow col_NoRow dd_NoRow m0_NoRow m1_NoRow m2_NoRow m3_NoRow m5_NoRow "LookupError.__new__"))
    (sa_NoRow : PySem.W.findIn K (.ref c_NoRow) "__setattr__" = some (some (.builtin "object.__setattr__")))
    (ga_NoRow : PySem.W.findIn K (.ref c_NoRow) "__getattribute__" = some (some (.builtin "BaseException.__getattribute__")))
    (gg_NoRow : PySem.W.findIn K (.ref c_NoRow) "__getattr__" = some none)
    (nb_NoRow : PySem.W.findIn K (.ref c_NoRow) "what" = some none)
    (ai_NoRow : PySem.W.findIn K (.ref c_NoRow) "__init__" = some (some (.ref i_NoRow)))
    (ti_NoRow : PySem.W.typeIn K (.ref i_NoRow) = some (.type "function"))
    (li_NoRow : K.lookup i_NoRow = some ⟨oc_NoRow, od_NoRow, .func (PySem.W.fnOf "__init__" "NoRow.__init__" (PySem.WhatX.iA ⟨8, 17, 8, 21⟩ ⟨8, 23, 8, 27⟩) (PySem.WhatX.iB ⟨9, 8, 9, 12⟩ ⟨9, 8, 9, 17⟩ ⟨9, 20, 9, 24⟩ ⟨9, 8, 9, 24⟩) PySem.WhatX.iS .none .none dc_NoRow pm_NoRow an_NoRow cd_NoRow ct_NoRow), sl_NoRow⟩)
    (ci_NoRow : PySem.W.codeIn K cd_NoRow "NoRow.__init__" = true)
    (kc_NoRow : PySem.W.keepIn K (.ref c_NoRow) = true)
    (ec_NoRow : PySem.W.subIn K (.ref c_NoRow) (.type "BaseException") = some true)
    (tc_NoRow : PySem.W.typeIn K (.ref c_NoRow) = some (.type "type"))
    (hc_NoRow : PySem.W.hasDictIn K c_NoRow = true)
    (ha_NoRow : PySem.W.findIn K (.ref c_NoRow) "__class__" = some (some (.builtin "object.__class__")))
    (hm_NoRow : PySem.W.mroIn K c_NoRow (.type "object") = some true)
    (hnD : PySem.W.specialIn K (.builtin "object.__class__") "__get__" = some (some (.builtin "getset_descriptor.__get__"))) (htD : PySem.W.takesIn K (.builtin "object.__class__") = some true)
    (s_NoFruit_NoFruit : PySem.W.subIn K (.ref c_NoFruit) (.ref c_NoFruit) = some true)
    (s_NoFruit_NoRow : PySem.W.subIn K (.ref c_NoFruit) (.ref c_NoRow) = some false)
    (s_NoRow_NoRow : PySem.W.subIn K (.ref c_NoRow) (.ref c_NoRow) = some true)
    (kt_NoFruit_LookupError : PySem.W.subIn K (.ref c_NoFruit) (.type "LookupError") = some true)
    : ∃ (fd : FuncData) (c P : Addr), PySem.W.tabIn K "passed_by" = some (c, P) ∧ K.lookup P = none ∧ (∀ (s : Shared) (v : Value), BindsTo s fd ⟨[v], []⟩ [("_law_script", v)]) ∧ ∀ base : Heap, K.In base → base.Ns mainGlobals mg → LamX.TabB base mg c P → FnOkG l.prog w K mg base CX0 14 fa fd ["_law_script"] (sp_law K P) := by
  have e := hfa.symm.trans (PySem.W.mg_of X G a25)
  cases e
  have F0 := fun_mk (st := s_is_within) l0 c0 k0
  have F1 := fun_mk (st := s_fruits_of) l1 c1 k1
  have F2 := fun_mk (st := s_others) l2 c2 k2
  have F3 := fun_mk (st := s_refuse_unknown) l3 c3 k3
  have F4 := fun_mk (st := s_has_one_within) l4 c4 k4
  have F5 := fun_mk (st := s_ripe) l5 c5 k5
  have F6 := fun_mk (st := s_pick) l6 c6 k6
  have F7 := fun_mk (st := s_passed_by) l7 c7 k7
  have F8 := fun_mk (st := s_turn_of) l8 c8 k8
  have F9 := fun_mk (st := s__law_tape) l9 c9 k9
  have F10 := fun_mk (st := s__law_draw) l10 c10 k10
  have F11 := fun_mk (st := s__law_folded) l11 c11 k11
  have F12 := fun_mk (st := s__law_names) l12 c12 k12
  have F13 := fun_mk (st := s__law_part) l13 c13 k13
  have F14 := fun_mk (st := s__law_same) l14 c14 k14
  have F15 := fun_mk (st := s__law_least) l15 c15 k15
  have F16 := fun_mk (st := s__law_within) l16 c16 k16
  have F17 := fun_mk (st := s__law_orchard) l17 c17 k17
  have F18 := fun_mk (st := s__law_ripe) l18 c18 k18
  have F19 := fun_mk (st := s__law_picked) l19 c19 k19
  have F20 := fun_mk (st := s__law_turn) l20 c20 k20
  have F21 := fun_mk (st := s__law_lists) l21 c21 k21
  have F22 := fun_mk (st := s__law_passed) l22 c22 k22
  have F23 := fun_mk (st := s__law_told_right) l23 c23 k23
  have F24 := fun_mk (st := s__law_right) l24 c24 k24
  have F25 := fun_mk (st := s_law) l25 c25 k25
  let T : Txt K mg := {
    f_is_within := f_is_within, fd_is_within := _, F_is_within := F0, b_is_within := F0.binds (ps := ["one", "other"]) fun _ _ _ _ _ _ us hl => (match us, hl with | [_, _], _ => rfl), g_is_within := PySem.W.mg_of X G a0,
    f_fruits_of := f_fruits_of, fd_fruits_of := _, F_fruits_of := F1, b_fruits_of := F1.binds (ps := ["rows"]) fun _ _ _ _ _ _ us hl => (match us, hl with | [_], _ => rfl), g_fruits_of := PySem.W.mg_of X G a1,
    f_others := f_others, fd_others := _, F_others := F2, b_others := F2.binds (ps := ["fruits", "fruit"]) fun _ _ _ _ _ _ us hl => (match us, hl with | [_, _], _ => rfl), g_others := PySem.W.mg_of X G a2,
    f_refuse_unknown := f_refuse_unknown, fd_refuse_unknown := _, F_refuse_unknown := F3, b_refuse_unknown := F3.binds (ps := ["orchard", "fruit"]) fun _ _ _ _ _ _ us hl => (match us, hl with | [_, _], _ => rfl), g_refuse_unknown := PySem.W.mg_of X G a3,
    f_has_one_within := f_has_one_within, fd_has_one_within := _, F_has_one_within := F4, b_has_one_within := F4.binds (ps := ["lots", "gone"]) fun _ _ _ _ _ _ us hl => (match us, hl with | [_, _], _ => rfl), g_has_one_within := PySem.W.mg_of X G a4,
    f_ripe := f_ripe, fd_ripe := _, F_ripe := F5, b_ripe := F5.binds (ps := ["orchard", "gone"]) fun _ _ _ _ _ _ us hl => (match us, hl with | [_, _], _ => rfl), g_ripe := PySem.W.mg_of X G a5,
    f_pick := f_pick, fd_pick := _, F_pick := F6, b_pick := F6.binds (ps := ["orchard", "liking"]) fun _ _ _ _ _ _ us hl => (match us, hl with | [_, _], _ => rfl), g_pick := PySem.W.mg_of X G a6,
    f_passed_by := f_passed_by, fd_passed_by := _, F_passed_by := F7, b_passed_by := F7.binds (ps := ["orchard", "liking"]) fun _ _ _ _ _ _ us hl => (match us, hl with | [_, _], _ => rfl), g_passed_by := PySem.W.mg_of X G a7,
    f_turn_of := f_turn_of, fd_turn_of := _, F_turn_of := F8, b_turn_of := F8.binds (ps := ["orchard", "liking", "fruit"]) fun _ _ _ _ _ _ us hl => (match us, hl with | [_, _, _], _ => rfl), g_turn_of := PySem.W.mg_of X G a8,
    f__law_tape := f__law_tape, fd__law_tape := _, F__law_tape := F9, b__law_tape := F9.binds (ps := ["_law_script", "_law_k"]) fun _ _ _ _ _ _ us hl => (match us, hl with | [_, _], _ => rfl), g__law_tape := PySem.W.mg_of X G a9,
    f__law_draw := f__law_draw, fd__law_draw := _, F__law_draw := F10, b__law_draw := F10.binds (ps := ["_law_tape_here", "_law_many"]) fun _ _ _ _ _ _ us hl => (match us, hl with | [_, _], _ => rfl), g__law_draw := PySem.W.mg_of X G a10,
    f__law_folded := f__law_folded, fd__law_folded := _, F__law_folded := F11, b__law_folded := F11.binds (ps := ["_law_script", "_law_many"]) fun _ _ _ _ _ _ us hl => (match us, hl with | [_, _], _ => rfl), g__law_folded := PySem.W.mg_of X G a11,
    f__law_names := f__law_names, fd__law_names := _, F__law_names := F12, b__law_names := F12.binds (ps := ["_law_tape_here", "_law_many"]) fun _ _ _ _ _ _ us hl => (match us, hl with | [_, _], _ => rfl), g__law_names := PySem.W.mg_of X G a12,
    f__law_part := f__law_part, fd__law_part := _, F__law_part := F13, b__law_part := F13.binds (ps := ["_law_tape_here", "_law_some", "_law_many"]) fun _ _ _ _ _ _ us hl => (match us, hl with | [_, _, _], _ => rfl), g__law_part := PySem.W.mg_of X G a13,
    f__law_same := f__law_same, fd__law_same := _, F__law_same := F14, b__law_same := F14.binds (ps := ["_law_found", "_law_due"]) fun _ _ _ _ _ _ us hl => (match us, hl with | [_, _], _ => rfl), g__law_same := PySem.W.mg_of X G a14,
    f__law_least := f__law_least, fd__law_least := _, F__law_least := F15, b__law_least := F15.binds (ps := ["_law_lots"]) fun _ _ _ _ _ _ us hl => (match us, hl with | [_], _ => rfl), g__law_least := PySem.W.mg_of X G a15,
    f__law_within := f__law_within, fd__law_within := _, F__law_within := F16, b__law_within := F16.binds (ps := ["_law_one", "_law_other"]) fun _ _ _ _ _ _ us hl => (match us, hl with | [_, _], _ => rfl), g__law_within := PySem.W.mg_of X G a16,
    f__law_orchard := f__law_orchard, fd__law_orchard := _, F__law_orchard := F17, b__law_orchard := F17.binds (ps := ["_law_tape_here", "_law_names_here", "_law_size"]) fun _ _ _ _ _ _ us hl => (match us, hl with | [_, _, _], _ => rfl), g__law_orchard := PySem.W.mg_of X G a17,
    f__law_ripe := f__law_ripe, fd__law_ripe := _, F__law_ripe := F18, b__law_ripe := F18.binds (ps := ["_law_orchards", "_law_gone"]) fun _ _ _ _ _ _ us hl => (match us, hl with | [_, _], _ => rfl), g__law_ripe := PySem.W.mg_of X G a18,
    f__law_picked := f__law_picked, fd__law_picked := _, F__law_picked := F19, b__law_picked := F19.binds (ps := ["_law_orchards", "_law_likings"]) fun _ _ _ _ _ _ us hl => (match us, hl with | [_, _], _ => rfl), g__law_picked := PySem.W.mg_of X G a19,
    f__law_turn := f__law_turn, fd__law_turn := _, F__law_turn := F20, b__law_turn := F20.binds (ps := ["_law_orchards", "_law_likings", "_law_fruits"]) fun _ _ _ _ _ _ us hl => (match us, hl with | [_, _, _], _ => rfl), g__law_turn := PySem.W.mg_of X G a20,
    f__law_lists := f__law_lists, fd__law_lists := _, F__law_lists := F21, b__law_lists := F21.binds (ps := ["_law_thing"]) fun _ _ _ _ _ _ us hl => (match us, hl with | [_], _ => rfl), g__law_lists := PySem.W.mg_of X G a21,
    f__law_passed := f__law_passed, fd__law_passed := _, F__law_passed := F22, b__law_passed := F22.binds (ps := ["_law_orchards", "_law_row"]) fun _ _ _ _ _ _ us hl => (match us, hl with | [_, _], _ => rfl), g__law_passed := PySem.W.mg_of X G a22,
    f__law_told_right := f__law_told_right, fd__law_told_right := _, F__law_told_right := F23, b__law_told_right := F23.binds (ps := ["_law_orchards", "_law_likings", "_law_row"]) fun _ _ _ _ _ _ us hl => (match us, hl with | [_, _, _], _ => rfl), g__law_told_right := PySem.W.mg_of X G a23,
    f__law_right := f__law_right, fd__law_right := _, F__law_right := F24, b__law_right := F24.binds (ps := ["_law_tape_here"]) fun _ _ _ _ _ _ us hl => (match us, hl with | [_], _ => rfl), g__law_right := PySem.W.mg_of X G a24,
    f_law := fa, fd_law := _, F_law := F25, b_law := F25.binds (ps := ["_law_script"]) fun _ _ _ _ _ _ us hl => (match us, hl with | [_], _ => rfl), g_law := PySem.W.mg_of X G a25,
    c_NoFruit := c_NoFruit, g_NoFruit := PySem.W.mg_of X G ac_NoFruit,
    c_NoRow := c_NoRow, g_NoRow := PySem.W.mg_of X G ac_NoRow,
    kb_pick := ⟨fun s us ws _ hl => (match us, hl with | [], hl => (match ws, (show ws.length = 2 by simpa [gKb] using hl) with | [_, _], _ => .of_eq rfl)), fun r1 r2 => gKb_rel r1 r2⟩,
    kb_passed_by := ⟨fun s us ws _ hl => (match us, hl with | [], hl => (match ws, (show ws.length = 2 by simpa [gKb] using hl) with | [_, _], _ => .of_eq rfl)), fun r1 r2 => gKb_rel r1 r2⟩,
    kb_turn_of := ⟨fun s us ws _ hl => by
      rcases us with _ | ⟨u, us⟩
      · rcases ws with _ | ⟨_, _ | ⟨_, _ | ⟨_, _ | ⟨_, _⟩⟩⟩⟩ <;> first | exact .of_eq rfl | (simp [gKp_turn_of] at hl)
      · simp [gKp_turn_of] at hl, fun r1 t0 => by cases r1 with | nil => (cases t0 with | nil => exact .nil | cons a0 t1 => (cases t1 with | nil => exact .nil | cons a1 t2 => (cases t2 with | nil => exact .nil | cons a2 t3 => (cases t3 with | nil => exact .cons a1 (.cons a2 (.cons a0 (.nil))) | cons _ _ => exact .nil)))) | cons _ _ => exact .nil⟩,
    cp_passed_by := cp_passed_by, tp_passed_by := tp_passed_by, cd_passed_by := rfl,
    m_len := PySem.W.mg_none_of X G z_len, m_sum := PySem.W.mg_none_of X G z_sum, m_abs := PySem.W.mg_none_of X G z_abs, m_int := PySem.W.mg_none_of X G z_int, m_list := PySem.W.mg_none_of X G z_list, m_tuple := PySem.W.mg_none_of X G z_tuple, m_all := PySem.W.mg_none_of X G z_all, m_any := PySem.W.mg_none_of X G z_any, m_isinstance := PySem.W.mg_none_of X G z_isinstance, m_max := PySem.W.mg_none_of X G z_max, m_min := PySem.W.mg_none_of X G z_min, m_range := PySem.W.mg_none_of X G z_range, m_enumerate := PySem.W.mg_none_of X G z_enumerate, m_zip := PySem.W.mg_none_of X G z_zip, m_str := PySem.W.mg_none_of X G z_str, m_bool := PySem.W.mg_none_of X G z_bool, m_LookupError := PySem.W.mg_none_of X G z_LookupError, m_ValueError := PySem.W.mg_none_of X G z_ValueError, m_repr := PySem.W.mg_none_of X G z_repr, m_sorted := PySem.W.mg_none_of X G z_sorted, m_set := PySem.W.mg_none_of X G z_set,
    i_NoFruit := i_NoFruit, w_NoFruit := { gC := PySem.W.mg_of X G ac_NoFruit, cls := ⟨_, _, _, _, _, _, _, _, _, _, _, _, _, _, _, _, _, _, PySem.WhatX.under_LookupError, xL_NoFruit⟩, sa := sa_NoFruit, ga := ga_NoFruit, gg := gg_NoFruit, noN := nb_NoFruit, iC := ai_NoFruit, tC := ti_NoFruit, kC := kc_NoFruit, exC := ec_NoFruit, tyC := tc_NoFruit, hdC := hc_NoFruit, fn := ⟨_, _, _, _, _, _, _, _, _, _, _, _, _, _, _, li_NoFruit, ci_NoFruit⟩ }, is_NoFruit := ⟨ga_NoFruit, gg_NoFruit, ec_NoFruit, hc_NoFruit, ha_NoFruit, hnD, htD, hm_NoFruit⟩,
    i_NoRow := i_NoRow, w_NoRow := { gC := PySem.W.mg_of X G ac_NoRow, cls := ⟨_, _, _, _, _, _, _, _, _, _, _, _, _, _, _, _, _, _, PySem.WhatX.under_LookupError, xL_NoRow⟩, sa := sa_NoRow, ga := ga_NoRow, gg := gg_NoRow, noN := nb_NoRow, iC := ai_NoRow, tC := ti_NoRow, kC := kc_NoRow, exC := ec_NoRow, tyC := tc_NoRow, hdC := hc_NoRow, fn := ⟨_, _, _, _, _, _, _, _, _, _, _, _, _, _, _, li_NoRow, ci_NoRow⟩ }, is_NoRow := ⟨ga_NoRow, gg_NoRow, ec_NoRow, hc_NoRow, ha_NoRow, hnD, htD, hm_NoRow⟩,
    x_NoFruit_NoFruit := exm_own ec_NoFruit hc_NoFruit tc_NoFruit s_NoFruit_NoFruit, ki_NoFruit_NoFruit := kit_own ec_NoFruit hc_NoFruit tc_NoFruit s_NoFruit_NoFruit s_NoFruit_NoFruit,
    x_NoFruit_NoRow := exm_own ec_NoRow hc_NoRow tc_NoRow s_NoFruit_NoRow, ki_NoFruit_NoRow := kit_own ec_NoRow hc_NoRow tc_NoRow s_NoRow_NoRow s_NoFruit_NoRow,
    kt_NoFruit_LookupError := kit_builtin (by decide +kernel) kt_NoFruit_LookupError }
  exact ⟨_, cp_passed_by, tp_passed_by, tabIn_of a7 l7 rfl lc_passed_by vp_passed_by, nk_passed_by, fun s v => .of_eq rfl, fun base _ _ TB => ok_law T TB⟩
end Rp
open PySem PySem.W PyProof.Rows
set_option maxHeartbeats 0 in
theorem PySem.Challenge.cw_ripepicks_k12_pickings_holds : PySem.Challenge.rw_ripepicks_k12_pickings.Holds := by
  w_on; o_law; k_head; (case hw => w_witness2)
  k_fill
  refine Rp.walk_tabG (l := PySem.Challenge.rw_ripepicks_k12_pickings) (n := 63) (lev := 14) (x := "_law_script") (lam := "passed_by") (promise := fun K P => Rp.sp_law K P) rfl (by rw [sizeLine_eq]; decide) rfl ⟨rfl, by decide, by decide⟩ (fun w h Y => PySem.W.km_in_of Y) ⟨_, rfl⟩ ?F (fun K P H a ns hl hT hS => ⟨a, ns, rfl, hS, hl, LamX.TabS.nil hT, fun _ => rfl⟩)
  case F =>
    intro w mg fa h KX G hmg
    refine' Rp.all_mk KX G hmg ?a0 ?l0 ?c0 ?k0 ?a1 ?l1 ?c1 ?k1 ?a2 ?l2 ?c2 ?k2 ?a3 ?l3 ?c3 ?k3 ?a4 ?l4 ?c4 ?k4 ?a5 ?l5 ?c5 ?k5 ?a6 ?l6 ?c6 ?k6 ?a7 ?l7 ?c7 ?k7 ?a8 ?l8 ?c8 ?k8 ?a9 ?l9 ?c9 ?k9 ?a10 ?l10 ?c10 ?k10 ?a11 ?l11 ?c11 ?k11 ?a12 ?l12 ?c12 ?k12 ?a13 ?l13 ?c13 ?k13 ?a14 ?l14 ?c14 ?k14 ?a15 ?l15 ?c15 ?k15 ?a16 ?l16 ?c16 ?k16 ?a17 ?l17 ?c17 ?k17 ?a18 ?l18 ?c18 ?k18 ?a19 ?l19 ?c19 ?k19 ?a20 ?l20 ?c20 ?k20 ?a21 ?l21 ?c21 ?k21 ?a22 ?l22 ?c22 ?k22 ?a23 ?l23 ?c23 ?k23 ?a24 ?l24 ?c24 ?k24 ?a25 ?l25 ?c25 ?k25 ?ac_NoFruit ?ac_NoRow ?z_len ?z_sum ?z_abs ?z_int ?z_list ?z_tuple ?z_all ?z_any ?z_isinstance ?z_max ?z_min ?z_range ?z_enumerate ?z_zip ?z_str ?z_bool ?z_LookupError ?z_ValueError ?z_repr ?z_sorted ?z_set ?lc_passed_by ?vp_passed_by ?nk_passed_by ?xL_NoFruit ?sa_NoFruit ?ga_NoFruit ?gg_NoFruit ?nb_NoFruit ?ai_NoFruit ?ti_NoFruit ?li_NoFruit ?ci_NoFruit ?kc_NoFruit ?ec_NoFruit ?tc_NoFruit ?hc_NoFruit ?ha_NoFruit ?hm_NoFruit ?xL_NoRow ?sa_NoRow ?ga_NoRow ?gg_NoRow ?nb_NoRow ?ai_NoRow ?ti_NoRow ?li_NoRow ?ci_NoRow ?kc_NoRow ?ec_NoRow ?tc_NoRow ?hc_NoRow ?ha_NoRow ?hm_NoRow ?hnD ?htD ?s_NoFruit_NoFruit ?s_NoFruit_NoRow ?s_NoRow_NoRow ?kt_NoFruit_LookupError
    (case a0 => k_is)
    (case l0 => k_is)
    (case c0 => k_is)
    (case k0 => k_is)
    (case a1 => k_is)
    (case l1 => k_is)
    (case c1 => k_is)
    (case k1 => k_is)
    (case a2 => k_is)
    (case l2 => k_is)
    (case c2 => k_is)
    (case k2 => k_is)
    (case a3 => k_is)
    (case l3 => k_is)
    (case c3 => k_is)
    (case k3 => k_is)
    (case a4 => k_is)
    (case l4 => k_is)
    (case c4 => k_is)
    (case k4 => k_is)
    (case a5 => k_is)
    (case l5 => k_is)
    (case c5 => k_is)
    (case k5 => k_is)
    (case a6 => k_is)
    (case l6 => k_is)
    (case c6 => k_is)
    (case k6 => k_is)
    (case a7 => k_is)
    (case l7 => k_is)
    (case c7 => k_is)
    (case k7 => k_is)
    (case a8 => k_is)
    (case l8 => k_is)
    (case c8 => k_is)
    (case k8 => k_is)
    (case a9 => k_is)
    (case l9 => k_is)
    (case c9 => k_is)
    (case k9 => k_is)
    (case a10 => k_is)
    (case l10 => k_is)
    (case c10 => k_is)
    (case k10 => k_is)
    (case a11 => k_is)
    (case l11 => k_is)
    (case c11 => k_is)
    (case k11 => k_is)
    (case a12 => k_is)
    (case l12 => k_is)
    (case c12 => k_is)
    (case k12 => k_is)
    (case a13 => k_is)
    (case l13 => k_is)
    (case c13 => k_is)
    (case k13 => k_is)
    (case a14 => k_is)
    (case l14 => k_is)
    (case c14 => k_is)
    (case k14 => k_is)
    (case a15 => k_is)
    (case l15 => k_is)
    (case c15 => k_is)
    (case k15 => k_is)
    (case a16 => k_is)
    (case l16 => k_is)
    (case c16 => k_is)
    (case k16 => k_is)
    (case a17 => k_is)
    (case l17 => k_is)
    (case c17 => k_is)
    (case k17 => k_is)
    (case a18 => k_is)
    (case l18 => k_is)
    (case c18 => k_is)
    (case k18 => k_is)
    (case a19 => k_is)
    (case l19 => k_is)
    (case c19 => k_is)
    (case k19 => k_is)
    (case a20 => k_is)
    (case l20 => k_is)
    (case c20 => k_is)
    (case k20 => k_is)
    (case a21 => k_is)
    (case l21 => k_is)
    (case c21 => k_is)
    (case k21 => k_is)
    (case a22 => k_is)
    (case l22 => k_is)
    (case c22 => k_is)
    (case k22 => k_is)
    (case a23 => k_is)
    (case l23 => k_is)
    (case c23 => k_is)
    (case k23 => k_is)
    (case a24 => k_is)
    (case l24 => k_is)
    (case c24 => k_is)
    (case k24 => k_is)
    (case a25 => k_is)
    (case l25 => k_is)
    (case c25 => k_is)
    (case k25 => k_is)
    (case ac_NoFruit => k_is)
    (case ac_NoRow => k_is)
    (case z_len => k_is)
    (case z_sum => k_is)
    (case z_abs => k_is)
    (case z_int => k_is)
    (case z_list => k_is)
    (case z_tuple => k_is)
    (case z_all => k_is)
    (case z_any => k_is)
    (case z_isinstance => k_is)
    (case z_max => k_is)
    (case z_min => k_is)
    (case z_range => k_is)
    (case z_enumerate => k_is)
    (case z_zip => k_is)
    (case z_str => k_is)
    (case z_bool => k_is)
    (case z_LookupError => k_is)
    (case z_ValueError => k_is)
    (case z_repr => k_is)
    (case z_sorted => k_is)
    (case z_set => k_is)
    (case lc_passed_by => k_is)
    (case vp_passed_by => rfl)
    (case nk_passed_by => first | rfl | k_is)
    (case xL_NoFruit => k_is)
    (case sa_NoFruit => k_is)
    (case ga_NoFruit => k_is)
    (case gg_NoFruit => k_is)
    (case nb_NoFruit => k_is)
    (case ai_NoFruit => k_is)
    (case ti_NoFruit => k_is)
    (case li_NoFruit => k_is)
    (case ci_NoFruit => k_is)
    (case kc_NoFruit => k_is)
    (case ec_NoFruit => k_is)
    (case tc_NoFruit => k_is)
    (case hc_NoFruit => k_is)
    (case ha_NoFruit => k_is)
    (case hm_NoFruit => k_is)
    (case xL_NoRow => k_is)
    (case sa_NoRow => k_is)
    (case ga_NoRow => k_is)
    (case gg_NoRow => k_is)
    (case nb_NoRow => k_is)
    (case ai_NoRow => k_is)
    (case ti_NoRow => k_is)
    (case li_NoRow => k_is)
    (case ci_NoRow => k_is)
    (case kc_NoRow => k_is)
    (case ec_NoRow => k_is)
    (case tc_NoRow => k_is)
    (case hc_NoRow => k_is)
    (case ha_NoRow => k_is)
    (case hm_NoRow => k_is)
    (case hnD => k_is)
    (case htD => k_is)
    (case s_NoFruit_NoFruit => first | rfl | k_is)
    (case s_NoFruit_NoRow => first | rfl | k_is)
    (case s_NoRow_NoRow => first | rfl | k_is)
    (case kt_NoFruit_LookupError => k_is)
