import PyProof.Rows.All
import Wide.All
import OpenK.AllK
import Wide.FinOn
import HandS.ForMost
import HandS.Wide
import HandS.Style
import HandS.Flow
import HandS.Zip
import HandS.Walk
import HandS.IsInst
import HandS.TryOnly
import HandS.Exc
import HandS.MakeKwOnly
import KE.KExcInit
import HandS.ForExc
import HandS.ExcIs
import KE.KTryMore
import KE.KExcIs
import PyProof.ReprRoads
import HandS.TupSets
import KE.SortData
import KE.KDictKeyed
import HandS.SortOrd
import PyProof.ReprLen
import PySem.Challenge.RW_ripepicks_k05_ripe_by_what_is_gone
set_option Elab.async false
set_option linter.all false
set_option maxRecDepth 100000
set_option maxHeartbeats 4000000
/-! The layer of this project: readings by name, walks of lists and tuples alike, the tape. -/
namespace Rp
open PySem PySem.Spec PyProof.Rows L2
/-! ### readings, named -/
def rLenA (K : PySem.W.Frag) : List V → Hp → VK → Prop := fun xs H Q => ∃ x n, xs = [x] ∧ LenV K x H n ∧ Q (.int n) H
def rLenQ (K : PySem.W.Frag) : List V → Hp → VK → Prop := fun xs H Q => ∃ p ys, xs = [.ref p] ∧ (SqL K H p ys ∨ SqT K H p ys) ∧ Q (.int ys.length) H
def rLenT : List V → Hp → VK → Prop := fun xs H Q => ∃ z, xs = [.str z] ∧ z.length ≤ sizeLine ∧ Q (.int z.length) H
def rListOf (K : PySem.W.Frag) : List V → Hp → VK → Prop := fun xs H Q => ∃ p ys, xs = [.ref p] ∧ (SqL K H p ys ∨ SqT K H p ys) ∧ ∀ l, H l = none → Q (.ref l) (upd H l (.lst ys))
def rTupOf (K : PySem.W.Frag) : List V → Hp → VK → Prop := fun xs H Q => ∃ p ys, xs = [.ref p] ∧ ((SqL K H p ys ∧ ∀ l, H l = none → Q (.ref l) (upd H l (.tup ys))) ∨ (SqT K H p ys ∧ Q (.ref p) H))
def rAbs : List V → Hp → VK → Prop := fun xs H Q => ∃ i, xs = [.int i] ∧ Q (.int (if i < 0 then -i else i)) H
def rInt1 : List V → Hp → VK → Prop := fun xs H Q => (∃ i, xs = [.int i] ∧ Q (.int i) H) ∨ ∃ k, xs = [.bl k] ∧ Q (.int (if k then 1 else 0)) H
def rMax2i : List V → Hp → VK → Prop := fun xs H Q => ∃ i j, xs = [.int i, .int j] ∧ Q (.int (if j > i then j else i)) H
def rMin2i : List V → Hp → VK → Prop := fun xs H Q => ∃ i j, xs = [.int i, .int j] ∧ Q (.int (if j < i then j else i)) H
def rCatStr : R2 := fun x y H Q => ∃ i j, x = .str i ∧ y = .str j ∧ i.length + j.length ≤ sizeLine ∧ Q (.str (i ++ j)) H
def rIsN : R2 := fun x y H Q => y = .non ∧ Q (.bl (decide (x = .non))) H
def rNotN : R2 := fun x y H Q => y = .non ∧ Q (.bl (!decide (x = .non))) H
def rJoin (K : PySem.W.Frag) : V → List V → Hp → VK → Prop := fun x xs H Q => ∃ a p, ∃ ys : List Str, x = .str a ∧ xs = [.ref p] ∧ (SqL K H p (ys.map V.str) ∨ SqT K H p (ys.map V.str)) ∧
      (ys.map (·.length)).sum + ys.length * a.length ≤ 16777216 ∧ Q (.str (Txt.join a ys)) H
section
variable {X : Cx}
/-! ### a list or a tuple is walked -/
def iSeq (K : PySem.W.Frag) (tl : TE) : TI := fun σ H R => iList K tl σ H R ∨ iTup K tl σ H R
theorem pi_seq {tg l : Expr} {tl : TE} (hl : PE X l tl) : PI X tg l (iSeq X.K tl) :=
  ⟨fun pins s σ H R I h => h.elim (fun h => (pi_list hl).run pins s σ H R I h) (fun h => (pi_tup hl).run pins s σ H R I h)⟩
/-- a list or a tuple is unpacked -/
def gSq (K : PySem.W.Frag) (n : Nat) (t : TGs) : TG := fun v σ H Q => gTup K n t v σ H Q ∨ gLst K n t v σ H Q
theorem pg_sq {es : List Expr} {k : Nat} {t : TGs} {n : Nat} {pos : Pos} (hc : X.calm = true) (h : PGs X es t) (hn : (assignEach es X.env).length = n := by rfl) (hst : (assignEach es X.env).findIdx? (·.1) = none := by rfl) :
    PG X (.Tuple es k pos) (gSq X.K n t) :=
  ⟨fun pins s σ H v u Q I r hw => hw.elim (fun hw => (pg_tup hc h hn hst).run pins s σ H v u Q I r hw) (fun hw => (pg_lst hc h hn hst).run pins s σ H v u Q I r hw)⟩
/-- f(k = v, ..), names alone -/
theorem pe_callK0 {CX : CXT} {k : Nat} {f : Addr} {fd : FuncData} {ps ks : List Str} {sp : Sp} {E : XK} {x : Str} {p pos : Pos} {kws : List Keyword} {tk : TA} {g : List Value → List Value → List Value} {gV : List V → List V → List V}
    (F : FnOk X.prog X.w X.K X.mg X.base CX k f fd ps sp) (hr : Room k X.A) (hg : Gl X x) (hm : X.mg x = some (.ref f)) (hk : PySem.W.keepIn X.K (.ref f) = true) (hb : KBinds X.K fd ps ks g gV) (hx : Passes CX X E)
    (hkw : PK X kws tk) (hall : (backToKw pos (keywordEach kws X.env)).all (·.1.isSome) = true := by rfl) (hks : (backToKw pos (keywordEach kws X.env)).filterMap (·.1) = ks := by rfl)
    (hdb : (x == ("__debug__" : Str)) = false := by decide) (hpl : ((backTo pos (starEach [] X.env)).any (·.1) || (backToKw pos (keywordEach kws X.env)).any (·.1.isNone)) = false := by rfl) :
    PE X (.Call (.Name x p) [] kws pos) (tCallK sp gV E tNil tk) := by
  refine ⟨fun pins s σ H Q I hq => wpAny_Call_Name_kw (ld_glob I hg hm (PySem.W.callWith_KW0 (h₀ := X.base) I.ok.mod.kin hk hall (thn (hkw.run pos pins s σ H _ I hq) fun ws s2 z => ?_) hpl) hdb)⟩
  obtain ⟨zs, H2, I2, rz, q2⟩ := z
  refine ⟨I2.kIn, ?_⟩
  rw [hks]
  exact run_fnk (us := []) (vs := []) F hr hb hx I2 .nil rz q2
end
/-- a def that may raise, called where it doesn't -/
theorem passF {X : Cx} : Passes (L2.CX X.prog X.w) X E0 := fun _ _ _ _ _ _ _ h => by
  obtain ⟨_, _, _, _, _, _, _, _, _, _, _, _, h⟩ := h
  exact h.elim
/-- a text times 0 or 1 -/
def rRepStr : R2 := fun x y H Q => ∃ z n, x = .str z ∧ y = .int n ∧ 0 ≤ n ∧ n ≤ 1 ∧ Q (.str (if n < 1 then Str.empty else z)) H
theorem op_rep_str {X : Cx} : OpR X (binaryOp .Mult) rRepStr := by
  intro pins s σ H x y v u Q I rx ry h
  obtain ⟨z, n, rfl, rfl, h0, h1, q⟩ := h
  obtain ⟨t, rfl⟩ := rx
  obtain ⟨t2, rfl⟩ := ry
  by_cases c : n < 1
  · rw [if_pos c] at q
    exact PySem.P.mul_str_none c (by omega) ⟨.str Str.empty, H, I.tok _, ⟨_, rfl⟩, q⟩
  · rw [if_neg c] at q
    have e : n = 1 := by omega
    subst e
    refine PySem.P.mul_str (by decide) (fun _ k => ?_) (fun _ k => ?_) ?_
    · simp at k
    · simp at k
    · rw [if_neg (by decide), if_pos (by simp)]
      exact ⟨.str z, H, I, ⟨_, rfl⟩, q⟩
/-! ### heaps -/
def mask (t : Addr) (H : Hp) : Hp := fun b => if b = t then none else H b
/-- all but the one at t stand -/
def Ext (t : Addr) (H H' : Hp) : Prop := ∀ b o, b ≠ t → H b = some o → H' b = some o
theorem Ext.refl (t : Addr) (H : Hp) : Ext t H H := fun _ _ _ h => h
theorem Ext.trans {t : Addr} {H H1 H2 : Hp} (a : Ext t H H1) (b : Ext t H1 H2) : Ext t H H2 := fun c o n h => b c o n (a c o n h)
theorem Ext.of {t : Addr} {H H' : Hp} (a : Same H H') : Ext t H H' := fun c o _ h => a c o h
theorem Ext.upd {t : Addr} {H : Hp} (o : HO) : Ext t H (upd H t o) := fun c u n h => by rw [upd_ne n]; exact h
theorem Ext.new {t p : Addr} {H : Hp} {o : HO} (h : H p = none) : Ext t H (L2.upd H p o) := fun c u n e => by rw [upd_ne (ne_of_none e h)]; exact e
theorem Same.new {p : Addr} {H : Hp} {o : HO} (h : H p = none) : Same H (L2.upd H p o) := fun c u e => by rw [upd_ne (ne_of_none e h)]; exact e
theorem Ext.mask {t : Addr} {H H' : Hp} (a : Ext t H H') : Same (mask t H) (mask t H') := fun c o h => by
  unfold Rp.mask at h ⊢
  by_cases e : c = t
  · rw [if_pos e] at h; cases h
  · rw [if_neg e] at h ⊢; exact a c o e h
theorem mask_same (t : Addr) (H : Hp) : Same (mask t H) H := fun c o h => by
  unfold Rp.mask at h
  by_cases e : c = t
  · rw [if_pos e] at h; cases h
  · rw [if_neg e] at h; exact h
theorem mask_ne {t c : Addr} {H : Hp} (e : c ≠ t) : mask t H c = H c := if_neg e
theorem Same.seqT {K : PySem.W.Frag} {H H' : Hp} {a : Addr} {xs : List V} (e : Same H H') (h : SqT K H a xs) : SqT K H' a xs := by
  rcases h with (h | ⟨o, h⟩) | h
  · exact .inl (.inl (e _ _ h))
  · exact .inl (.inr ⟨o, e _ _ h⟩)
  · exact .inr h
mutual
theorem Dp.same {K : PySem.W.Frag} {H H' : Hp} (e : Same H H') : ∀ {v : V} {d : PyData}, Dp K H v d → Dp K H' v d
  | _, _, .non => .non
  | _, _, .bl b => .bl b
  | _, _, .int i => .int i
  | _, _, .str x => .str x
  | _, _, .lst h a => .lst (e.seq h) (DpAll.same e a)
  | _, _, .tup h a => .tup (Same.seqT e h) (DpAll.same e a)
theorem DpAll.same {K : PySem.W.Frag} {H H' : Hp} (e : Same H H') : ∀ {vs : List V} {ds : List PyData}, DpAll K H vs ds → DpAll K H' vs ds
  | _, _, .nil => .nil
  | _, _, .cons a b => .cons (Dp.same e a) (DpAll.same e b)
end
/-- the tape stands at t, so many draws done at most -/
def TapeAt (H : Hp) (t : Addr) (n : Nat) : Prop := ∃ a b c : Int, H t = some (.lst [.int a, .int b, .int c]) ∧ 0 ≤ a ∧ 0 ≤ b ∧ b < 4611686018427387904 ∧ 0 ≤ c ∧ c ≤ n
theorem TapeAt.mono {H : Hp} {t : Addr} {n m : Nat} (h : TapeAt H t n) (l : n ≤ m) : TapeAt H t m := by
  obtain ⟨a, b, c, e, h1, h2, h3, h4, h5⟩ := h
  exact ⟨a, b, c, e, h1, h2, h3, h4, by omega⟩
theorem TapeAt.same {H H' : Hp} {t : Addr} {n : Nat} (h : TapeAt H t n) (s : Same H H') : TapeAt H' t n := by
  obtain ⟨a, b, c, e, h1⟩ := h
  exact ⟨a, b, c, s _ _ e, h1⟩
theorem TapeAt.new {H : Hp} {t p : Addr} {n : Nat} {o : HO} (h : TapeAt H t n) (e : H p = none) : TapeAt (upd H p o) t n := h.same (Same.new e)
theorem cutV_to (xs : List V) (j : Nat) : cutV xs none (some (j : Int)) = xs.take j := by
  unfold cutV
  rw [HT.sIx_none, HT.sIx_nat, List.drop_zero, Nat.sub_zero]
  by_cases h : j ≤ xs.length
  · rw [Nat.min_eq_left h]
  · rw [Nat.min_eq_right (by omega), List.take_length, List.take_of_length_le (by omega)]
theorem cutV_from (xs : List V) (i : Nat) : cutV xs (some (i : Int)) none = xs.drop i := by
  unfold cutV
  rw [HT.sIx_none, HT.sIx_nat]
  by_cases h : i ≤ xs.length
  · rw [Nat.min_eq_left h]
    exact List.take_of_length_le (by rw [List.length_drop]; omega)
  · rw [Nat.min_eq_right (by omega), List.drop_eq_nil_of_le (Nat.le_refl _), List.take_nil, List.drop_eq_nil_of_le (by omega)]
theorem cutV_mid (xs : List V) (i j : Nat) : cutV xs (some (i : Int)) (some (j : Int)) = (xs.take j).drop i := by
  unfold cutV
  rw [HT.sIx_nat, HT.sIx_nat, List.drop_take]
  by_cases h : i ≤ xs.length
  · rw [Nat.min_eq_left h]
    by_cases h2 : j ≤ xs.length
    · rw [Nat.min_eq_left h2]
    · rw [Nat.min_eq_right (by omega), List.take_of_length_le (by rw [List.length_drop]; omega), List.take_of_length_le (by rw [List.length_drop]; omega)]
  · rw [List.drop_eq_nil_of_le (show xs.length ≤ min i xs.length by omega), List.drop_eq_nil_of_le (show xs.length ≤ i by omega), List.take_nil, List.take_nil]
theorem gTup2 {K : PySem.W.Frag} {T : Addr} {x y : V} {i j : Nat} {σ : L2.St} {H : Hp} {Q : L2.St → Hp → Prop} (h : SqT K H T [x, y]) (q : Q ((σ.set i (some x)).set j (some y)) H) :
    gTup K 2 (gCons (gName i) (gCons (gName j) gNil)) (.ref T) σ H Q := ⟨T, [x, y], rfl, h, rfl, x, [y], rfl, y, [], rfl, rfl, q⟩
theorem atI_ok {α : Type} {xs : List α} {i : Int} {k : Nat} (e : i = (k : Int)) (h : k < xs.length) : atI xs i = some xs[k] := by
  subst e
  exact atI_nat (List.getElem?_eq_getElem h)
theorem ixN_ok {n k : Nat} {i : Int} (e : i = (k : Int)) (h : k < n) : ixN n i = some k := by
  subst e
  unfold ixN
  rw [if_pos (by omega), if_pos (by omega)]
  simp
theorem ixL {K : PySem.W.Frag} {H : Hp} {a : Addr} {xs : List V} {i : Int} {v : V} {Q : VK} (h : SqL K H a xs) (e : atI xs i = some v) (q : Q v H) : rIxL K (.ref a) (.int i) H Q := ⟨a, xs, i, v, rfl, rfl, h, e, q⟩
theorem ixLH {K : PySem.W.Frag} {H : Hp} {a : Addr} {xs : List V} {i : Int} {v : V} {Q : VK} (h : H a = some (.lst xs)) (e : atI xs i = some v) (q : Q v H) : rIxL K (.ref a) (.int i) H Q := ⟨a, xs, i, v, rfl, rfl, .inl (.inl h), e, q⟩
/-! ### walks, by an invariant -/
def LcK (J : It) (g : TG) (tt : TT) (te : TE) (vs : List Nat) (σ : L2.St) (H1 : Hp) (Q : VK) : Prop := ∀ D, H1 D = none → ∃ W : Nat → Nat → Hp → Prop, (∃ m, W 0 m (upd H1 D (.lst []))) ∧ ∀ i m H, W i m H →
  (J.stop i H ∧ Q (.ref D) H) ∨ (J.go i H ∧ ∃ Nx : Hp → Prop, (∀ H', Nx H' → ∃ m', m' < m ∧ W (i + 1) m' H') ∧ ∀ x H', J.yld i H x H' → g x (wipe σ vs) H' fun σ2 H2 => wipe σ2 vs = wipe σ vs ∧ tt σ2 H2 fun b H3 =>
    if b = true then te σ2 H3 fun y H4 => ∃ acc, H4 D = some (.lst acc) ∧ acc.length < sizeLine ∧ Nx (upd H4 D (.lst (acc ++ [y]))) else Nx H3)
theorem tLc_eq {wi : TI} {g : TG} {tt : TT} {te : TE} {vs : List Nat} {σ : L2.St} {H : Hp} {Q : VK} : tLc wi g tt te vs σ H Q = wi σ H (fun J H1 => LcK J g tt te vs σ H1 Q) := rfl
theorem lcK {J : It} {n : Nat} {G : Hp → Prop} {Y : Nat → Hp → V → Hp → Prop} (w : Walk J n G Y) {g : TG} {tt : TT} {te : TE} {vs : List Nat} {σ : L2.St} {H1 : Hp} {Q : VK} (Pv : Addr → Nat → Hp → Prop) (h0 : ∀ D, H1 D = none → Pv D 0 (upd H1 D (.lst []))) (hG : ∀ D i H, i ≤ n → Pv D i H → G H)
    (hs : ∀ D i x H H', H1 D = none → i < n → Pv D i H → Y i H x H' → g x (wipe σ vs) H' fun σ2 H2 => wipe σ2 vs = wipe σ vs ∧ tt σ2 H2 fun b H3 =>
      if b = true then te σ2 H3 fun y H4 => ∃ acc, H4 D = some (.lst acc) ∧ acc.length < sizeLine ∧ Pv D (i + 1) (upd H4 D (.lst (acc ++ [y]))) else Pv D (i + 1) H3) (hd : ∀ D H, H1 D = none → Pv D n H → Q (.ref D) H) : LcK J g tt te vs σ H1 Q :=
  fun D nD => lc_it w (Pv D) (h0 D nD) (hG D) (fun i x H H' => hs D i x H H' nD) (fun H => hd D H nD)
def FrK (J : It) (g : TG) (tb : TS) (D : Ends) (σ : L2.St) (H1 : Hp) : Prop := ∃ W : Nat → Nat → L2.St → Hp → Prop, (∃ m, W 0 m σ H1) ∧ ∀ i m σ H, W i m σ H →
  (J.stop i H ∧ D.nx σ H) ∨ (J.go i H ∧ ∃ N : L2.St → Hp → Prop, (∀ σ' H', N σ' H' → ∃ m', m' < m ∧ W (i + 1) m' σ' H') ∧ ∀ x H', J.yld i H x H' → g x σ H' fun σ2 H2 => tb { D with nx := N, ct := N, bk := D.nx } σ2 H2)
theorem tFor_eq {wi : TI} {g : TG} {tb : TS} {D : Ends} {σ : L2.St} {H : Hp} : tFor wi g tb D σ H = wi σ H (fun J H1 => FrK J g tb D σ H1) := rfl
theorem frK {J : It} {n : Nat} {G : Hp → Prop} {Y : Nat → Hp → V → Hp → Prop} (w : Walk J n G Y) {g : TG} {tb : TS} {D : Ends} {σ : L2.St} {H : Hp} (Pv : Nat → L2.St → Hp → Prop) (h0 : Pv 0 σ H) (hG : ∀ i σ H, i ≤ n → Pv i σ H → G H)
    (hs : ∀ i x σ H H', i < n → Pv i σ H → Y i H x H' → g x σ H' fun σ2 H2 => tb { D with nx := Pv (i + 1), ct := Pv (i + 1), bk := D.nx } σ2 H2) (hd : ∀ σ H, Pv n σ H → D.nx σ H) : FrK J g tb D σ H := for_it w Pv h0 hG hs hd
end Rp

namespace Rp
open PySem PySem.Spec PyProof.Rows L2 TL
/-! ### the names' mathematics -/
def nmIdx (w k : Nat) : Nat := if w = 0 then k else if w = 1 then k / 2 else k
def nmTail (w : Nat) (tail : List Nat) (k : Nat) : List Nat := if w = 0 then tail else if w = 1 then (if k % 2 = 0 then [] else tail) else tail.take (k % (tail.length + 1))
def nm (sh st w : Nat) (head tail : List Nat) (k : Nat) : List Nat := head ++ (97 + (sh + st * nmIdx w k) % 26) :: nmTail w tail k
theorem nmIdx_lt {w k : Nat} (h : k < 26) : nmIdx w k < 26 := by unfold nmIdx; split <;> (try split) <;> omega
theorem nm_inj {sh st w : Nat} {head tail : List Nat} (hst : st = 1 ∨ st = 7 ∨ st = 25) (hw : w ≠ 0 → tail ≠ []) {i j : Nat} (hi : i < 26) (hj : j < 26) (e : nm sh st w head tail i = nm sh st w head tail j) : i = j := by
  unfold nm at e
  have e1 := List.append_cancel_left e
  obtain ⟨e2, e3⟩ := List.cons.inj e1
  have li := nmIdx_lt (w := w) hi
  have lj := nmIdx_lt (w := w) hj
  have e4 : nmIdx w i = nmIdx w j := by
    rcases hst with rfl | rfl | rfl <;> omega
  unfold nmIdx at e4
  by_cases h0 : w = 0
  · rw [if_pos h0, if_pos h0] at e4; exact e4
  · rw [if_neg h0, if_neg h0] at e4
    by_cases h1 : w = 1
    · rw [if_pos h1, if_pos h1] at e4
      unfold nmTail at e3
      rw [if_neg h0, if_neg h0, if_pos h1, if_pos h1] at e3
      have ht := hw h0
      by_cases ci : i % 2 = 0
      · by_cases cj : j % 2 = 0
        · omega
        · rw [if_pos ci, if_neg cj] at e3
          exact absurd e3.symm ht
      · by_cases cj : j % 2 = 0
        · rw [if_neg ci, if_pos cj] at e3
          exact absurd e3 ht
        · omega
    · rw [if_neg h1, if_neg h1] at e4; exact e4
theorem nmTail_sub {w k : Nat} {tail : List Nat} : ∀ c ∈ nmTail w tail k, c ∈ tail := by
  intro c h
  unfold nmTail at h
  split at h
  · exact h
  · split at h
    · split at h
      · cases h
      · exact h
    · exact List.mem_of_mem_take h
theorem nmTail_len {w k : Nat} {tail : List Nat} : (nmTail w tail k).length ≤ tail.length := by
  unfold nmTail
  split
  · exact Nat.le_refl _
  · split
    · split
      · exact Nat.zero_le _
      · exact Nat.le_refl _
    · rw [List.length_take]; omega
/-! ### texts by their codes -/
def tx (l : List Nat) : Str := ⟨l.toArray⟩
theorem tx_inj {a b : List Nat} (h : tx a = tx b) : a = b := by
  have : a.toArray = b.toArray := congrArg Str.cps h
  simpa using this
theorem tx_len (l : List Nat) : (tx l).length = l.length := rfl
theorem tx_cps (l : List Nat) : (tx l).cps.toList = l := rfl
theorem tx_app (a b : List Nat) : tx a ++ tx b = tx (a ++ b) := by
  show (⟨a.toArray ++ b.toArray⟩ : Str) = ⟨(a ++ b).toArray⟩
  simp
theorem tx_empty : Str.ofString "" = tx [] := rfl
theorem tx_emp : Str.empty = tx [] := rfl
theorem cutS_to (l : List Nat) (j : Nat) : cutS (tx l) none (some (j : Int)) = tx (l.take j) := by
  unfold cutS
  rw [HT.sIx_none, HT.sIx_nat, tx_len, tx_cps, List.drop_zero, Nat.sub_zero]
  by_cases h : j ≤ l.length
  · rw [Nat.min_eq_left h]; rfl
  · rw [Nat.min_eq_right (by omega), List.take_length, List.take_of_length_le (by omega)]; rfl
theorem cutS_from (l : List Nat) (i : Nat) : cutS (tx l) (some (i : Int)) none = tx (l.drop i) := by
  unfold cutS
  rw [HT.sIx_none, HT.sIx_nat, tx_len, tx_cps]
  by_cases h : i ≤ l.length
  · rw [Nat.min_eq_left h, List.take_of_length_le (by rw [List.length_drop]; omega)]; rfl
  · rw [Nat.min_eq_right (by omega), List.drop_eq_nil_of_le (Nat.le_refl _), List.take_nil, List.drop_eq_nil_of_le (by omega)]; rfl
theorem joinL_nil : ∀ ps : List (List Nat), joinL [] ps = ps.flatten
  | [] => rfl
  | [p] => by simp [joinL]
  | p :: q :: r => by
    show p ++ ([] ++ joinL [] (q :: r)) = _
    rw [joinL_nil (q :: r)]
    simp
theorem join_signs (cs : List Nat) : Txt.join (Str.ofString "") (cs.map fun c => tx [c]) = tx cs := by
  have e : ∀ a b : Str, tl a = tl b → a = b := fun a b h => by
    cases a; cases b
    simp [tl] at h
    simpa using h
  apply e
  rw [join_eq, tl_join]
  show joinL [] _ = cs
  rw [joinL_nil]
  induction cs with
  | nil => rfl
  | cons c r ih => simpa [tl, tx] using ih
theorem letters_at {r : Int} (h0 : 0 ≤ r) (h1 : r < 26) : atI (Str.ofString "abcdefghijklmnopqrstuvwxyz").cps.toList r = some (97 + r.toNat) := by
  have e : (Str.ofString "abcdefghijklmnopqrstuvwxyz").cps.toList = (List.range 26).map (97 + ·) := by decide +kernel
  rw [e]
  have : r = ((r.toNat : Nat) : Int) := by omega
  rw [atI_ok this (by simp; omega)]
  simp
theorem letters_len : (Str.ofString "abcdefghijklmnopqrstuvwxyz").length = 26 := by decide +kernel
theorem atI3 {α : Type} {x y z : α} {i : Int} {w : Nat} (e : i = (w : Int)) (h : w < 3) : atI [x, y, z] i = some (if w = 0 then x else if w = 1 then y else z) := by
  subst e
  match w, h with
  | 0, _ => rfl
  | 1, _ => rfl
  | 2, _ => rfl
theorem idxV (w i : Nat) : (if w = 0 then V.int (i : Int) else if w = 1 then V.int ((i : Int) / 2) else V.int (i : Int)) = V.int ((nmIdx w i : Nat) : Int) := by
  unfold nmIdx
  split
  · rfl
  · split
    · rw [show ((i / 2 : Nat) : Int) = (i : Int) / 2 by omega]
    · rfl
theorem tailV (w i : Nat) (tail : List Nat) : (if w = 0 then V.str (tx tail) else if w = 1 then V.str (if (i : Int) % 2 < 1 then Str.empty else tx tail) else V.str (tx (tail.take (i % (tail.length + 1))))) = V.str (tx (nmTail w tail i)) := by
  unfold nmTail
  split
  · rfl
  · split
    · by_cases c : i % 2 = 0
      · rw [if_pos (by omega), if_pos c]; rfl
      · rw [if_neg (by omega), if_neg c]
    · rfl
theorem nodup_map {α β : Type} {f : α → β} {l : List α} (h : l.Nodup) (inj : ∀ x ∈ l, ∀ y ∈ l, f x = f y → x = y) : (l.map f).Nodup := by
  unfold List.Nodup at h ⊢
  rw [List.pairwise_map]
  exact h.imp_of_mem (fun {x y} hx hy ne e => ne (inj x hx y hy e))
theorem erase_perm {α : Type} : ∀ (l : List α) (i : Nat) (h : i < l.length), (l[i] :: l.eraseIdx i).Perm l
  | x :: r, 0, _ => .refl _
  | x :: r, i + 1, h => by
    have ih := erase_perm r i (Nat.lt_of_succ_lt_succ h)
    show ((r[i]'(Nat.lt_of_succ_lt_succ h)) :: x :: r.eraseIdx i).Perm (x :: r)
    exact (List.Perm.swap _ _ _).trans (ih.cons x)
def unV : V → Option Str
  | .str z => some z
  | _ => none
theorem unV_map (zs : List Str) : (zs.map V.str).filterMap unV = zs := by
  induction zs with
  | nil => rfl
  | cons z r ih => simpa [unV] using ih
theorem strs_of_mem : ∀ (ys : List V), (∀ y ∈ ys, ∃ z, y = V.str z) → ys = (ys.filterMap unV).map V.str
  | [], _ => rfl
  | y :: r, h => by
    obtain ⟨z, rfl⟩ := h y List.mem_cons_self
    have ih := strs_of_mem r fun x hx => h x (List.mem_cons_of_mem _ hx)
    simp [unV]
    exact ih
theorem perm_strs {ys : List V} {zs : List Str} (h : ys.Perm (zs.map V.str)) : ∃ ls : List Str, ys = ls.map V.str ∧ ls.Perm zs := by
  refine ⟨ys.filterMap unV, strs_of_mem ys fun y hy => ?_, ?_⟩
  · obtain ⟨z, _, e⟩ := List.mem_map.mp (h.mem_iff.mp hy)
    exact ⟨z, e.symm⟩
  · have := h.filterMap unV
    rw [unV_map] at this
    exact this
theorem nodup_perm {α : Type} {l m : List α} (h : l.Perm m) (n : m.Nodup) : l.Nodup := h.nodup_iff.mpr n
theorem strs_at {zs : List Str} {i : Nat} {x : V} (h : (zs.map V.str)[i]? = some x) : ∃ z, zs[i]? = some z ∧ x = V.str z := by
  rw [List.getElem?_map] at h
  obtain ⟨z, h1, h2⟩ := Option.map_eq_some_iff.mp h
  exact ⟨z, h1, h2.symm⟩
/-- the fruit moved to this place -/
def oth (zs : List Str) (f : Str) : List Str := zs.filter fun z => !decide (z = f)
def plc (zs : List Str) (f : Str) (p : Nat) : List Str := (oth zs f).take p ++ f :: (oth zs f).drop p
theorem oth_step {ls : List Str} {i : Nat} {z f : Str} (h : ls[i]? = some z) : oth (ls.take (i + 1)) f = if z = f then oth (ls.take i) f else oth (ls.take i) f ++ [z] := by
  rw [List.take_add_one, h]
  unfold oth
  rw [List.filter_append]
  by_cases c : z = f
  · rw [if_pos c]; simp [c]
  · rw [if_neg c]; simp [c]
theorem oth_le (ls : List Str) (f : Str) : (oth ls f).length ≤ ls.length := List.length_filter_le _ _
def IsName (z : Str) : Prop := 1 ≤ z.length ∧ z.length ≤ 8 ∧ ∀ c ∈ z.cps.toList, 97 ≤ c ∧ c ≤ 122
end Rp
namespace Rp
open PySem PySem.Spec PyProof.Rows L2 RZ
/-! ### kinds of data -/
def tyN : PyData → String
  | .none => "NoneType" | .bool _ => "bool" | .int _ => "int" | .str _ => "str" | .list _ => "list" | .tuple _ => "tuple" | .dict _ => "dict"
theorem tyL {K : PySem.W.Frag} {H : Hp} {a : Addr} {xs : List V} (h : SqL K H a xs) : TyX K H (.ref a) (.type "list") := by
  rcases h with (h | ⟨o, h⟩) | ⟨o, its, n, h, h2, _⟩
  · exact .base (.lst h)
  · exact .base (.frz h)
  · exact .kList h h2
theorem tyT {K : PySem.W.Frag} {H : Hp} {a : Addr} {xs : List V} (h : SqT K H a xs) : TyX K H (.ref a) (.type "tuple") := by
  rcases h with (h | ⟨o, h⟩) | ⟨o, its, n, h, h2, _⟩
  · exact .base (.tup h)
  · exact .fTuple h
  · exact .kTuple h h2
theorem Dp.ty {K : PySem.W.Frag} {H : Hp} {x : V} {d : PyData} (h : Dp K H x d) : TyX K H x (.type (tyN d)) := by
  cases h with
  | non => exact .base .non
  | bl b => exact .base (.bl b)
  | int i => exact .base (.int i)
  | str z => exact .base (.str z)
  | lst h _ => exact tyL h
  | tup h _ => exact tyT h
theorem isi1 {K : PySem.W.Frag} {H : Hp} {x : V} {d : PyData} {c : String} {b : Bool} {Q : VK} (h : Dp K H x d) (e : kitB (tyN d) c = some b) (q : Q (.bl b) H) : rIsi K [x, .ty c] H Q :=
  ⟨x, .ty c, _, .type c, b, rfl, .ty c, Dp.ty h, kit_ty e, q⟩
theorem isi2 {K : PySem.W.Frag} {H : Hp} {x : V} {d : PyData} {c1 c2 : String} {b1 b2 : Bool} {T : Addr} {Q : VK} (hT : H T = some (.tup [.ty c1, .ty c2])) (h : Dp K H x d) (e1 : kitB (tyN d) c1 = some b1) (e2 : kitB (tyN d) c2 = some b2) (q : Q (.bl (b1 || b2)) H) : rIsiT K [x, .ref T] H Q := by
  refine ⟨x, T, [.ty c1, .ty c2], _, [.type c1, .type c2], b1 || b2, rfl, hT, .cons (.ty c1) (.cons (.ty c2) .nil), Dp.ty h, ?_, q⟩
  cases b1 with
  | true => exact kitAny_cons (b := true) (kit_ty e1) (fun z => nomatch z) (fun _ => rfl)
  | false =>
    refine kitAny_cons (b := false) (kit_ty e1) (fun _ => ?_) (fun z => nomatch z)
    cases b2 with
    | true => exact kitAny_cons (b := true) (kit_ty e2) (fun z => nomatch z) (fun _ => rfl)
    | false => exact kitAny_cons (b := false) (kit_ty e2) (fun _ => rfl) (fun z => nomatch z)
theorem kb_NoneType_list : kitB "NoneType" "list" = some false := by decide +kernel
theorem kb_NoneType_tuple : kitB "NoneType" "tuple" = some false := by decide +kernel
theorem kb_NoneType_str : kitB "NoneType" "str" = some false := by decide +kernel
theorem kb_NoneType_bool : kitB "NoneType" "bool" = some false := by decide +kernel
theorem kb_NoneType_int : kitB "NoneType" "int" = some false := by decide +kernel
theorem kb_bool_list : kitB "bool" "list" = some false := by decide +kernel
theorem kb_bool_tuple : kitB "bool" "tuple" = some false := by decide +kernel
theorem kb_bool_str : kitB "bool" "str" = some false := by decide +kernel
theorem kb_bool_bool : kitB "bool" "bool" = some true := by decide +kernel
theorem kb_bool_int : kitB "bool" "int" = some true := by decide +kernel
theorem kb_int_list : kitB "int" "list" = some false := by decide +kernel
theorem kb_int_tuple : kitB "int" "tuple" = some false := by decide +kernel
theorem kb_int_str : kitB "int" "str" = some false := by decide +kernel
theorem kb_int_bool : kitB "int" "bool" = some false := by decide +kernel
theorem kb_int_int : kitB "int" "int" = some true := by decide +kernel
theorem kb_str_list : kitB "str" "list" = some false := by decide +kernel
theorem kb_str_tuple : kitB "str" "tuple" = some false := by decide +kernel
theorem kb_str_str : kitB "str" "str" = some true := by decide +kernel
theorem kb_str_bool : kitB "str" "bool" = some false := by decide +kernel
theorem kb_str_int : kitB "str" "int" = some false := by decide +kernel
theorem kb_list_list : kitB "list" "list" = some true := by decide +kernel
theorem kb_list_tuple : kitB "list" "tuple" = some false := by decide +kernel
theorem kb_list_str : kitB "list" "str" = some false := by decide +kernel
theorem kb_list_bool : kitB "list" "bool" = some false := by decide +kernel
theorem kb_list_int : kitB "list" "int" = some false := by decide +kernel
theorem kb_tuple_list : kitB "tuple" "list" = some false := by decide +kernel
theorem kb_tuple_tuple : kitB "tuple" "tuple" = some true := by decide +kernel
theorem kb_tuple_str : kitB "tuple" "str" = some false := by decide +kernel
theorem kb_tuple_bool : kitB "tuple" "bool" = some false := by decide +kernel
theorem kb_tuple_int : kitB "tuple" "int" = some false := by decide +kernel
theorem kb_dict_list : kitB "dict" "list" = some false := by decide +kernel
theorem kb_dict_tuple : kitB "dict" "tuple" = some false := by decide +kernel
def isLst : PyData → Bool
  | .list _ => true
  | _ => false
def isTpl : PyData → Bool
  | .tuple _ => true
  | _ => false
theorem kb_lst (d : PyData) : kitB (tyN d) "list" = some (isLst d) := by
  cases d with
  | none => exact kb_NoneType_list
  | bool _ => exact kb_bool_list
  | int _ => exact kb_int_list
  | str _ => exact kb_str_list
  | list _ => exact kb_list_list
  | tuple _ => exact kb_tuple_list
  | dict _ => exact kb_dict_list
theorem kb_tpl (d : PyData) : kitB (tyN d) "tuple" = some (isTpl d) := by
  cases d with
  | none => exact kb_NoneType_tuple
  | bool _ => exact kb_bool_tuple
  | int _ => exact kb_int_tuple
  | str _ => exact kb_str_tuple
  | list _ => exact kb_list_tuple
  | tuple _ => exact kb_tuple_tuple
  | dict _ => exact kb_dict_tuple
/-- data of this depth at most, no dicts, lists of a thousand at most -/
def Deep : Nat → PyData → Prop
  | _, .none => True
  | _, .bool _ => True
  | _, .int _ => True
  | _, .str _ => True
  | n + 1, .list ds => ds.length ≤ 1000 ∧ ∀ d ∈ ds, Deep n d
  | n + 1, .tuple ds => ds.length ≤ 1000 ∧ ∀ d ∈ ds, Deep n d
  | _, _ => False
theorem DpAll.len {K : PySem.W.Frag} {H : Hp} : ∀ {vs : List V} {ds : List PyData}, DpAll K H vs ds → vs.length = ds.length
  | _, _, .nil => rfl
  | _, _, .cons _ b => by rw [List.length_cons, List.length_cons, DpAll.len b]
theorem DpAll.at {K : PySem.W.Frag} {H : Hp} : ∀ {vs : List V} {ds : List PyData} {i : Nat} {v : V}, DpAll K H vs ds → vs[i]? = some v → ∃ d, ds[i]? = some d ∧ Dp K H v d
  | _, _, 0, _, .cons a _, e => by simp at e; subst e; exact ⟨_, rfl, a⟩
  | _, _, i + 1, _, .cons _ b, e => by
    obtain ⟨d, h1, h2⟩ := DpAll.at (i := i) b (by simpa using e)
    exact ⟨d, by simpa using h1, h2⟩
theorem walk_zipT {K : PySem.W.Frag} {a b : Addr} {xs ys : List V} {n : Nat} (hn : n = min xs.length ys.length) : Walk (ItzT K a b) n (fun H => SqT K H a xs ∧ SqT K H b ys) (YPair (fun i => xs[i]?) (fun i => ys[i]?)) := by
  subst hn
  refine ⟨fun i _ hi q => ⟨xs, ys, xs[i]'(by omega), ys[i]'(by omega), q.1, q.2, List.getElem?_eq_getElem _, List.getElem?_eq_getElem _⟩, fun _ q => ⟨xs, ys, q.1, q.2, by omega⟩, fun i H v H' _ q y => ?_⟩
  obtain ⟨T, x, z, h1, h2, h3, h4, h5⟩ := y
  exact ⟨T, x, z, h1, h2, h3, h4 xs q.1, h5 ys q.2⟩
/-- a list of texts as data -/
theorem dp_strs {K : PySem.W.Frag} {H : Hp} : ∀ zs : List Str, DpAll K H (zs.map V.str) (zs.map PyData.str)
  | [] => .nil
  | z :: r => .cons (.str z) (dp_strs r)
theorem deep_strs (n : Nat) (zs : List Str) : ∀ d ∈ zs.map PyData.str, Deep n d := by
  intro d h
  obtain ⟨z, _, rfl⟩ := List.mem_map.mp h
  unfold Deep; trivial
theorem oth_none {ls : List Str} {z : Str} (h : z ∉ ls) : oth ls z = ls := by
  unfold oth
  refine List.filter_eq_self.mpr fun x hx => ?_
  have : x ≠ z := fun e => h (e ▸ hx)
  simp [this]
theorem plc_last {init : List Str} {z : Str} (h : (init ++ [z]).Nodup) : plc (init ++ [z]) z init.length = init ++ [z] := by
  have hn : z ∉ init := fun hz => by
    rw [List.nodup_append] at h
    exact h.2.2 z hz z (by simp) rfl
  have e : oth (init ++ [z]) z = init := by
    have := oth_none hn
    unfold oth at this ⊢
    rw [List.filter_append, this]
    simp
  unfold plc
  rw [e, List.take_length, List.drop_length]
theorem not_name_0 : ¬ IsName (Str.ofString "") := fun h => absurd h.1 (by decide +kernel)
theorem not_name_A : ¬ IsName (Str.ofString "A") := fun h => by
  have := h.2.2 65 (by decide +kernel)
  omega
theorem not_name_n : ¬ IsName (Str.ofString "no such") := fun h => by
  have := h.2.2 32 (by decide +kernel)
  omega
def odds : List Str := [Str.ofString "", Str.ofString "A", Str.ofString "no such"]
theorem odds_no : ∀ o ∈ odds, ¬ IsName o := by
  intro o h
  simp [odds] at h
  rcases h with rfl | rfl | rfl
  · exact not_name_0
  · exact not_name_A
  · exact not_name_n
theorem walk_any {K : PySem.W.Frag} {i : Nat} {σ : L2.St} {H : Hp} {a : Addr} {xs : List V} {R : It → Hp → Prop} (hv : σ[i]? = some (some (.ref a))) (hS : SqL K H a xs ∨ SqT K H a xs)
    (h : ∀ J, Walk J xs.length (fun H' => Same H H') (YAt xs) → R J H) : iSeq K (tVar i) σ H R := by
  rcases hS with hS | hS
  · exact .inl ⟨.ref a, hv, a, rfl, ⟨_, hS⟩, h _ (walk_list.mono (fun H' s => s.seq hS) (fun _ _ _ _ _ _ y => y))⟩
  · exact .inr ⟨.ref a, hv, a, rfl, ⟨_, hS⟩, h _ (walk_tup.mono (fun H' s => Same.seqT s hS) (fun _ _ _ _ _ _ y => y))⟩
theorem flat_strs (zs : List Str) : (zs.map V.str).all flatV = true := by
  induction zs with
  | nil => rfl
  | cons z r ih => simpa [flatV] using ih
theorem inV_strs (f : Str) (zs : List Str) : inV (.str f) (zs.map V.str) = decide (f ∈ zs) := by
  induction zs with
  | nil => simp [inV]
  | cons z r ih =>
    unfold inV at ih ⊢
    rw [List.map_cons, List.any_cons, ih]
    by_cases c : f = z
    · subst c; simp [eqV]
    · have c' : z ≠ f := fun e => c e.symm
      simp [eqV, c, c']
end Rp

/-! Own errors with the one field what, whatever built-in class they stand under. -/
namespace PySem
namespace WhatX
open PySem.W PySem.Calls PyProof.Rows PySem.HandSPX Builtin Builtin.ObjectAttr
def iA (p1 p2 : Pos) : Arguments := { posonlyargs := [], args := [{ arg := "self", annotation := none, pos := p1 }, { arg := "what", annotation := none, pos := p2 }], vararg := none, kwonlyargs := [], kw_defaults := [], kwarg := none, defaults := [] }
def iB (q1 q2 q3 q4 : Pos) : List Stmt := [.Assign [.Attribute (.Name "self" q1) "what" q2] (.Name "what" q3) q4]
def iS : Scope := { kind := .function, names := [(PySem.Str.ofString "self", .local), (PySem.Str.ofString "what", .local)], isGenerator := false, isCoroutine := false, more := [] }
/-- what is asked of the built-in class's own chain -/
structure Under (B newId initId : String) (bm : List Value) : Prop where
  facts : ExcBaseFacts B newId initId bm
  pass : ∀ self, refuseLoop self "__setattr__" bm = pure ()
  obj : bm.contains (.type "object") = true
theorem under_LookupError : Under "LookupError" "LookupError.__new__" "LookupError.__init__" [.type "LookupError", .type "Exception", .type "BaseException", .type "object"] :=
  ⟨PySem.F.excBase_LookupError, fun self => PySem.F.store_LookupError.passes self, by decide +kernel⟩
theorem under_ValueError : Under "ValueError" "ValueError.__new__" "ValueError.__init__" [.type "ValueError", .type "Exception", .type "BaseException", .type "object"] :=
  ⟨PySem.F.excBase_ValueError, fun self => PySem.F.store_ValueError.passes self, by decide +kernel⟩
theorem under_RuntimeError : Under "RuntimeError" "RuntimeError.__new__" "RuntimeError.__init__" [.type "RuntimeError", .type "Exception", .type "BaseException", .type "object"] :=
  ⟨PySem.F.excBase_RuntimeError, fun self => PySem.F.store_RuntimeError.passes self, by decide +kernel⟩
theorem under_TypeError : Under "TypeError" "TypeError.__new__" "TypeError.__init__" [.type "TypeError", .type "Exception", .type "BaseException", .type "object"] :=
  ⟨PySem.F.excBase_TypeError, fun self => PySem.F.store_TypeError.passes self, by decide +kernel⟩
/-- what the written part says of such a class, x at C, its __init__ at fI -/
structure WhatTxt (K : Frag) (mg : Str → Option Value) (x : Str) (C fI : Addr) : Prop where
  gC : mg x = some (.ref C)
  cls : ∃ B newId initId nm q N bs bm sn sub ab col dd k0 k1 k2 k3 k5, Under B newId initId bm ∧ K.lookup C = some (excClassObj nm q C N bs bm true sn sub ab col dd k0 k1 k2 k3 k5 newId)
  sa : findIn K (.ref C) "__setattr__" = some (some (.builtin "object.__setattr__"))
  ga : findIn K (.ref C) "__getattribute__" = some (some (.builtin "BaseException.__getattribute__"))
  gg : findIn K (.ref C) "__getattr__" = some none
  noN : findIn K (.ref C) "what" = some none
  iC : findIn K (.ref C) "__init__" = some (some (.ref fI))
  tC : typeIn K (.ref fI) = some (.type "function")
  kC : keepIn K (.ref C) = true
  exC : subIn K (.ref C) (.type "BaseException") = some true
  tyC : typeIn K (.ref C) = some (.type "type")
  hdC : hasDictIn K C = true
  fn : ∃ (qual : Str) (oc : Value) (od : Option Addr) (doc pm : Value) (an : Option Addr) (cdv ct : Value) (osl : Array (Option Value)) (p1 p2 q1 q2 q3 q4 : Pos),
    K.lookup fI = some ⟨oc, od, .func (fnOf "__init__" qual (iA p1 p2) (iB q1 q2 q3 q4) iS .none .none doc pm an cdv ct), osl⟩ ∧ codeIn K cdv qual = true
/-- self.what = v on a fresh error, by object's own store -/
theorem osaW {prog : Program} {w : World} {A : Around} {hp : Heap} {g : Array GenState} {d : Drawn} {t : Nat} {os : OsState} {R : Result → Shared → Prop} {K : Frag} {fld : Str} {tk : Tok} {val : Value} {e C : Addr} {fv : Array Value} {cdt : ClassData}
    (XK : K.In hp) (at_e : hp.get? e = some { cls := .ref C, data := .fields fv }) (hcd : clsIn K C = some cdt) (chain : ∃ bm, cdt.mro = .ref C :: bm ∧ (∀ self, refuseLoop self "__setattr__" bm = pure ()) ∧ bm.contains (.type "object") = true)
    (hasd : cdt.hasDict = true) (none_there : findIn K (.ref C) fld = some none)
    (fin : ∀ h' tk' dx, (∀ b o, b ≠ e → hp.get? b = some o → h'.get? b = some o) → hp.objs.size ≤ dx → dx ≠ e → h'.get? e = some { cls := .ref C, dict := some dx, data := .fields fv } →
      h'.Ns1 dx (fun y => if y = fld then some val else none) → R (.ok (.ret .none)) ⟨h', g, d, tk', os⟩) :
    codeAny (model prog w) A (.call (.builtin "object.__setattr__") ⟨[.ref e, .str fld tk, val], []⟩) R ⟨hp, g, d, t, os⟩ := by
  obtain ⟨bm, em, hpass, hobj⟩ := chain
  have inst : InstAt hp e { cls := .ref C, data := .fields fv } C none := ⟨at_e, rfl, rfl, trivial⟩
  have st := F.store_object
  have nonempty : cdt.mro.isEmpty = false := by rw [em]; rfl
  have obj_in : cdt.mro.contains (.type "object") = true := by rw [em, List.contains_cons, hobj]; simp
  have away : e ≠ hp.objs.size := Nat.ne_of_lt (Heap.lt_size at_e)
  have is_obj : Looks (model prog w) hp (isInstance (.ref e) (.type "object")) true :=
    inst.type.andThen (looks_mroIn XK (by unfold mroIn; rw [hcd, Option.bind_some, if_neg (by rw [nonempty]; decide), obj_in]))
  have by_mro : Looks (model prog w) hp (mroOf (.ref C)) cdt.mro := (looks_clsIn XK hcd).andThen .now
  have no_taker : Looks (model prog w) hp (storeTaker? none) none := .now
  have by_cls : Looks (model prog w) hp (classData C) cdt := looks_clsIn XK hcd
  refine codeAny_call_builtin st.slot.plain st.entry (@check_slot (model prog w) _ _ ⟨hp, g, d, t, os⟩ "object.__setattr__" "object" "__setattr__" (.ref e) [.str fld tk, val] [] _ st.kind st.split is_obj (st.args (.ref e) (.str fld tk) val) ?_)
  rw [osa_eq, refuse_eq]
  refine wpAny_bind (wpAny_bind (inst.type.at (wpAny_bind (by_mro.at ?_))))
  rw [em, refuseLoop_ref, hpass]
  refine wpAny_pure (wpAny_bind (inst.type.at (wpAny_bind ((looks_findIn XK none_there).at (wpAny_bind (no_taker.at ?_))))))
  show wpAny _ _ (storeInOwnDict (.ref e) (.ref C) (.str fld tk) fld val false) _ _ _
  obtain ⟨nm, bs, mro, ns, qn, hd, sn, sb, ab, col, del⟩ := cdt
  dsimp only at hasd
  subst hasd
  unfold storeInOwnDict ownDictForStores
  repeat (first | with_reducible refine store_in_new ?_ ?_ | with_reducible refine wpAny_loadPart_at at_e ?_ | with_reducible refine by_cls.at ?_ | wp_step)
  · exact ⟨_, #[], _, (Heap.get?_update_ne _ _ _ _ away.symm).trans (Heap.get?_push_at rfl rfl), rfl, fun q hq => absurd hq (by simp), fun _ => rfl⟩
  · intro h' tk' new_ns same
    have still : (hp.push { cls := .type "dict", data := .dict #[] }).get? e = some { cls := .ref C, data := .fields fv } := Heap.get?_push_of_some _ at_e
    refine fin h' tk' hp.objs.size (fun b o hb ho => ?_) (Nat.le_refl _) away.symm ?_ new_ns
    · exact (same.2 b (Nat.ne_of_lt (Heap.lt_size ho))).trans ((Heap.get?_update_ne _ _ _ _ hb).trans (Heap.get?_push_of_some _ ho))
    · exact (same.2 e away).trans (Heap.get?_update_self _ still rfl)
/-- what __init__ leaves of a fresh error at e -/
structure Inited (h h' : Heap) (e C dx t1 : Addr) (val : Value) : Prop where
  keep : ∀ b o, b ≠ e → h.get? b = some o → h'.get? b = some o
  obj : h'.get? e = some { cls := .ref C, dict := some dx, data := .fields #[.ref t1, .none, .none, .none, .bool false, .none] }
  dbig : h.objs.size ≤ dx
  dne : dx ≠ e
  ns : h'.Ns1 dx (fun y => if y = "what" then some val else none)
/-- a made error -/
structure Made (h h' : Heap) (e C d : Addr) (val : Value) : Prop where
  keep : ∀ b o, h.get? b = some o → h'.get? b = some o
  new : h.objs.size ≤ e
  obj : ∃ oe vs, h'.get? e = some oe ∧ oe.cls = .ref C ∧ oe.dict = some d ∧ oe.data = .fields vs ∧ vs[1]? = some .none
  dbig : h.objs.size ≤ d
  dne : d ≠ e
  ns : h'.Ns1 d (fun y => if y = "what" then some val else none)
section
variable {prog : Program} {w : World} {A : Around} {E : Value → Shared → Prop} {R : Result → Shared → Prop} {s : Shared} {K : Frag} {mg : Str → Option Value} {nx : Str} {C fI : Addr}
theorem slotC {M : Model} {name : Str} {scope : Scope} {L a : Addr} {cd : Value} {m : Str → Option Value} {y : Str} {pos : Pos} {val : Value} {Q : Value → Shared → Prop} (hn : s.heap.Ns L m) (hv : m y = some val) (h : Q val s)
    (hk : scope.kind = .function := by rfl) (hl : (envOfC name scope L a cd).kindOf y = some .local := by rfl) (hd : (y == ("__debug__" : Str)) = false := by decide) :
    wpAny M A (eval (.Name y pos) (envOfC name scope L a cd)) Q E s := wpAny_Name (wpAny_loadName_local hk hl hn hv h) hd
theorem what_init (T : WhatTxt K mg nx C fI) {e t0 : Addr} {val : Value} (XK : K.In s.heap) (hlim : s.heap.NoLimit) (he : s.heap.get? e = some (excO C t0)) (hne : K.lookup e = none) (hroom : A.depth < recursionLimit)
    (fin : ∀ h' tk dx, Inited s.heap h' e C dx t0 val → R (.ok (.ret .none)) { s with heap := h', toks := tk }) :
    codeAny (model prog w) A (.call (.ref fI) ⟨[.ref e, val], []⟩) R s := by
  obtain ⟨qual, oc, od, doc, pm, an, cdv, ct, osl, p1, p2, q1, q2, q3, q4, ho, hcd⟩ := T.fn
  obtain ⟨B, newId, initId, nm, q, N, bs, bm, sn, sub, ab, col, dd, k0, k1, k2, k3, k5, un, hC⟩ := T.cls
  have hcl : clsIn K C = some { name := nm, bases := bs, mro := .ref C :: bm, ns := N, qualname := q, hasDict := true, slotNames := sn, subclasses := sub, abstract := ab, collection := col, hasDel := false } := by unfold clsIn; rw [hC] <;> rfl
  refine Att.call_fn (binds := [("self", .ref e), ("what", val)]) XK hlim ho hcd hroom (BindsTo.of_eq (by first | rfl | with_unfolding_all rfl)) (by first | rfl | decide | with_unfolding_all rfl) (fun s1 IC => ?_) rfl rfl rfl
  obtain ⟨h1, tk1, rfl⟩ := IC.toInCall.same
  have kept : ∀ b o, s.heap.get? b = some o → h1.get? b = some o := IC.toInCall.keep
  have ns1 := IC.toInCall.ns
  have he1 := kept _ _ he
  show wpAny _ _ (execs _ _) _ _ _
  refine wpAny_execs_cons (plainObj_wpAny_Assign_Attribute ?_)
  refine slotC (val := val) ns1 (by first | rfl | with_unfolding_all rfl | kernel_rfl) (slotC (val := .ref e) ns1 (by first | rfl | with_unfolding_all rfl | kernel_rfl) ?_)
  refine set_plain (XK.keeps kept) (ox := excO C t0) (od := none) ⟨he1, rfl, rfl, trivial⟩ T.sa ?_
  refine osaW (XK.keeps kept) he1 hcl ⟨bm, rfl, un.pass, un.obj⟩ rfl T.noN (fun h3 tk3 dx k3 dn dne he3 hn3 => ?_)
  show wpAny _ _ (execs _ _) _ _ _
  have lt : s.heap.objs.size < h1.objs.size := ns1.lt
  exact wpAny_execs_nil (fin h3 tk3 dx ⟨fun b o hb eo => k3 b o hb (kept b o eo), he3, Nat.le_of_lt (Nat.lt_of_lt_of_le lt dn), dne, hn3⟩)
theorem what_made (T : WhatTxt K mg nx C fI) {val : Value} (XK : K.In s.heap) (hlim : s.heap.NoLimit) (hroom : A.depth + 1 < recursionLimit)
    (fin : ∀ h' tk e d, Made s.heap h' e C d val → R (.ok (.ret (.ref e))) { s with heap := h', toks := tk }) :
    codeAny (model prog w) A (.call (.ref C) ⟨[val], []⟩) R s := by
  obtain ⟨B, newId, initId, nm, q, N, bs, bm, sn, sub, ab, col, dd, k0, k1, k2, k3, k5, un, hC⟩ := T.cls
  obtain ⟨hp, g, dr, tk, os⟩ := s
  have kept : ∀ b o, hp.get? b = some o → ((hp.push (kdv_tup [val])).push (excO C hp.objs.size)).get? b = some o := fun b o eo => Heap.get?_push_of_some _ (Heap.get?_push_of_some _ eo)
  have at_e : ((hp.push (kdv_tup [val])).push (excO C hp.objs.size)).get? (hp.objs.size + 1) = some (excO C hp.objs.size) := by heap_get
  have not_K : K.lookup (hp.objs.size + 1) = none := by
    cases eo : K.lookup (hp.objs.size + 1) with
    | none => rfl
    | some o => exact absurd (Nat.lt_of_succ_lt (Heap.lt_size (show hp.get? (hp.objs.size + 1) = some o from XK _ _ eo))) (Nat.lt_irrefl _)
  have one : [val].length ≤ sizeLine := by rw [sizeLine_eq]; exact (by decide : 1 ≤ 16777216)
  refine call_own un.facts (fun _ => rfl) (XK _ _ hC) (looks_findIn XK T.iC) (fun self => bind_fn XK self T.tC) one ?_
  refine what_init (s := ⟨(hp.push (kdv_tup [val])).push (excO C hp.objs.size), g, dr, tk, os⟩) T (XK.keeps kept) (hlim.keeps kept) at_e not_K hroom fun h' tk' dx hI => ?_
  obtain ⟨k', hx, dn, dne, hns⟩ := hI
  have old : ∀ b o, hp.get? b = some o → h'.get? b = some o := fun b o eo => k' b o (Nat.ne_of_lt (Nat.lt_succ_of_lt (Heap.lt_size eo))) (kept b o eo)
  have big : hp.objs.size + 1 + 1 ≤ dx := by
    first
      | (simpa only [Heap.size_push] using dn)
      | exact dn
  exact ⟨rfl, fin h' tk' (hp.objs.size + 1) dx ⟨old, Nat.le_succ _, ⟨_, _, hx, rfl, rfl, rfl, rfl⟩, Nat.le_trans (Nat.le_trans (Nat.le_succ _) (Nat.le_succ _)) big, dne, hns⟩⟩
end
end WhatX
end PySem
namespace Rp
open PySem PySem.Spec PyProof.Rows L2 PySem.WhatX
theorem relO_what {v : V} {u : Value} (r : RelV v u) (f : Str) : RelO (List.lookup f [(("what" : Str), v)]) (if f = "what" then some u else none) := by
  by_cases hw : f = "what"
  · subst hw
    rw [if_pos rfl, show List.lookup ("what" : Str) [(("what" : Str), v)] = some v by simp [List.lookup]]
    exact r
  · have qw : (f == ("what" : Str)) = false := by simpa using hw
    rw [if_neg hw, show List.lookup f [(("what" : Str), v)] = none by simp [List.lookup, qw]]
    trivial
section
variable {X : Cx} {nx : Str} {C fI : Addr}
/-- C(e), an error of such a class -/
def tMkWhat (C : Addr) (ta : TA) : L2.St → Hp → XK → Prop := fun σ H Q => ta σ H fun vs H1 => ∃ v, vs = [v] ∧ ∀ d, H1 d = none → Q (.ref C) (some d) (upd H1 d (.xd [(("what" : Str), v)]))
theorem pmk_what {a : Expr} {ta : TA} {p pos : Pos} {k : Nat} (T : WhatTxt X.K X.mg nx C fI) (hr : Room k X.A) (ha : PA X [a] ta) (hg : Gl X nx) (hdb : (nx == ("__debug__" : Str)) = false := by decide)
    (he : starEach (a :: []) X.env = (false, eval a X.env) :: starEach [] X.env := by rfl) (hpl : (backTo pos (starEach [] X.env)).any (·.1) = false := by rfl) :
    PMk X (.Call (.Name nx p) [a] [] pos) (tMkWhat C ta) := by
  intro pins s σ H Q I h
  refine wpAny_Call_Name_kw (ld_glob I hg T.gC ?_ hdb)
  refine PySem.W.callWith_K (h₀ := X.base) I.ok.mod.kin T.kC (thn (ha.run pos pins s σ H _ I h) fun us s1 hh => ?_) he hpl
  obtain ⟨vs, H1, I1, r1, v, ev, q1⟩ := hh
  subst ev
  refine ⟨I1.kIn, ?_⟩
  cases r1 with
  | cons rv rn =>
    rename_i v' us'
    cases rn
    show wpAny _ _ (call (.ref C) [v']) _ _ _
    have hlim := I1.nolimit
    obtain ⟨hp, g, dr, tk, os⟩ := s1
    refine wpAny_call (what_made T I1.kIn hlim (by have := hr.dp; omega) fun h' tk' e d M => ?_)
    show MkP X pins σ Q (.ref e) ⟨h', g, dr, tk', os⟩
    obtain ⟨oe, fv, hoe, hc, hd, hdat, h1⟩ := M.obj
    have hns := M.ns
    obtain ⟨G', g1, g2⟩ := restrict h' fun b => decide (b ≠ e)
    have gk : ∀ b, b ≠ e → G'.get? b = h'.get? b := fun b hb => g1 b (decide_eq_true hb)
    have ge : G'.get? e = none := g2 e (by simp)
    have old : ∀ b o, hp.get? b = some o → G'.get? b = some o := fun b o q => (gk b (Nat.ne_of_lt (Nat.lt_of_lt_of_le (Heap.lt_size q) M.new))).trans (M.keep b o q)
    have ob : ObjOk X.prog X.w (upd H1 d (.xd [(("what" : Str), v)])) G' d (.xd [(("what" : Str), v)]) :=
      ⟨_, hns.at (fun o q => (gk d M.dne).trans q), fun f => relO_what rv f⟩
    have J : Inv X pins σ (upd H1 d (.xd [(("what" : Str), v)])) ⟨G', g, dr, tk', os⟩ := I1.laid (t' := tk') old M.dbig ob
    refine ⟨e, oe, fv, ⟨G', g, dr, tk', os⟩, _, .ref C, some d, rfl, J, fun b o q => ?_, ge, hoe, ⟨hc, hd⟩, hdat, h1, ?_, rfl, I1.bare, raises_own T.exC T.tyC, q1 d (I1.hok.fresh M.dbig)⟩
    · by_cases hb : b = e
      · have q' : G'.get? b = some o := q
        rw [hb, ge] at q'; cases q'
      · exact (gk b hb).symm.trans q
    · rw [upd_ne (Ne.symm M.dne)]
      exact I1.hok.fresh M.new
/-- raise C(e) -/
def tRaiseWhat (C : Addr) (W : WX) (ta : TA) : TS := fun _ σ H => tMkWhat C ta σ H fun cls d H' => W cls d σ H'
theorem ps_raiseWhat {a : Expr} {ta : TA} {W : WX} {p pos pos2 : Pos} {k : Nat} (hc : X.calm = true) (T : WhatTxt X.K X.mg nx C fI) (hr : Room k X.A) (tk : Takes X W) (ha : PA X [a] ta) (hg : Gl X nx) (hdb : (nx == ("__debug__" : Str)) = false := by decide)
    (he : starEach (a :: []) X.env = (false, eval a X.env) :: starEach [] X.env := by rfl) (hpl : (backTo pos (starEach [] X.env)).any (·.1) = false := by rfl) :
    PS X (.Raise (some (.Call (.Name nx p) [a] [] pos)) none pos2) (tRaiseWhat C W ta) := ps_raise hc tk (pmk_what T hr ha hg hdb he hpl)
end
end Rp

/-! An error that is caught by a tuple of classes and kept behind the suite. -/
namespace Rp
open PySem PySem.Spec PyProof.Rows L2
/-- the error at a, of the class at C, its own dict at d -/
def ExH (a C d : Addr) : HO := .ext fun h => ∃ (oe : Obj) (vs : Array Value), h.get? a = some oe ∧ oe.cls = .ref C ∧ oe.dict = some d ∧ oe.data = .fields vs
theorem exH_ok {P : Program} {w : World} {H : Hp} {h : Heap} {a C d : Addr} {oe : Obj} {vs : Array Value} (e : h.get? a = some oe) (z : Zc (.ref C) (some d) oe) (hd : oe.data = .fields vs) : ObjOk P w H h a (ExH a C d) :=
  ⟨⟨oe, vs, e, z.1, z.2, hd⟩, ⟨oe, e⟩, fun h1 h2 p k => by
    obtain ⟨o, v, e1, r⟩ := p
    exact ⟨o, v, k _ e1, r⟩⟩
section
variable {X : Cx} {pins : List (Addr × Obj)} {σ : L2.St} {H : Hp} {s : Shared}
/-- an object that is there, younger than the entry, is tracked from now on -/
theorem track {a : Addr} {o : HO} (I : Inv X pins σ H s) (na : H a = none) (n0 : X.s_0.heap.get? a = none) (nL : a ≠ X.env.locals) (nC : ∀ x c, X.env.cells.lookup x = some c → c ≠ a) (nP : ∀ p ∈ X.pn ++ pins, p.1 ≠ a)
    (new : ObjOk X.prog X.w (upd H a o) s.heap a o) : Inv X pins σ (upd H a o) s := by
  have ne0 : ∀ b ob, X.s_0.heap.get? b = some ob → b ≠ a := fun b ob e z => by rw [z, n0] at e; cases e
  refine ⟨I.ok, I.os, I.bare, ⟨I.base.keep, I.base.slot, fun b ob e n hx => ?_, I.base.there, fun b xs e => ?_, fun b ob u e => ?_, fun b ps e => ?_⟩, I.loc, I.cell, ?_, fun x c e => ?_, fun p hp => ?_, ?_, I.len⟩
  · rw [upd_ne (ne0 b ob e)]; exact I.base.free b ob e n hx
  · have q := I.base.tups b xs e
    rw [upd_ne (ne_of_none q na)]; exact q
  · have q := I.base.frzs b ob u e
    rw [upd_ne (ne_of_none q na)]; exact q
  · obtain ⟨m, q⟩ := I.base.tbls b ps e
    exact ⟨m, by rw [upd_ne (ne_of_none q na)]; exact q⟩
  · rw [upd_ne nL.symm]; exact I.free
  · rw [upd_ne (nC x c e)]; exact I.freeC x c e
  · obtain ⟨q1, q2, q3⟩ := I.pin p hp
    exact ⟨q1, by rw [upd_ne (nP p hp)]; exact q2, q3⟩
  · intro b u e
    by_cases hb : b = a
    · subst hb
      rw [upd_same] at e; cases e
      exact new
    · rw [upd_ne hb] at e
      exact (I.hok b u e).stay (fun _ _ _ q => q) (fun c q => by rw [upd_ne (ne_of_none q na)]; exact q) (fun c xs q => by rw [upd_ne (ne_of_none q na)]; exact q)
end
theorem flying_keeps {B h h' : Heap} {l : List Env} {e : Addr} {Z : Obj → Prop} (f : HandSPX.FlyingZ B l e Z h) (k : ∀ b o, h.get? b = some o → h'.get? b = some o) : HandSPX.FlyingZ B l e Z h' := by
  obtain ⟨f1, f2, f3, oe, vs, T, oT, ts, g1, g2, g3, g4, g5, g6, g7, g8, g9⟩ := f
  exact ⟨fun b o q => k b o (f1 b o q), f2, f3.of_keeps (fun b o q _ => ⟨o, k b o q, rfl⟩), oe, vs, T, oT, ts, k _ _ g1, g2, g3, g4, g5, g6, k _ _ g7, g8, g9⟩
/-- how a tuple of classes is matched -/
def ExmTup (K : PySem.W.Frag) (cs : List Value) : Prop := ∀ (M : Model) (h : Heap) (tp e : Addr) (cls : Value) (b : Bool), K.In h → PySem.W.Looks M h (typeOf (.ref e)) cls → h.get? tp = some { cls := .type "tuple", data := .seq cs.toArray } →
  PySem.W.exmAny K cls cs = some b → PySem.W.Looks M h (excMatches (.ref e) (.ref tp)) b
theorem exmTup2 {K : PySem.W.Frag} {c1 c2 : Value} : ExmTup K [c1, c2] := fun _ _ _ _ _ _ X L p x => PySem.W.exm_tup2 X L p x
theorem exmTup3 {K : PySem.W.Frag} {c1 c2 c3 : Value} : ExmTup K [c1, c2, c3] := fun _ _ _ _ _ _ X L p x => PySem.W.exm_tup3 X L p x
theorem exmTup4 {K : PySem.W.Frag} {c1 c2 c3 c4 : Value} : ExmTup K [c1, c2, c3, c4] := fun _ _ _ _ _ _ X L p x => PySem.W.exm_tup4 X L p x
/-- names of the module, one behind the other: nothing changes -/
def NmOk (X : Cx) (es : List Expr) (cs : List Value) : Prop := ∀ (E : Value → Shared → Prop) (pos : Pos) (pins : List (Addr × Obj)) (s : Shared) (σ : L2.St) (H : Hp) (Q : List Value → Shared → Prop), Inv X pins σ H s → Q cs s →
  wpAny (model X.prog X.w) X.A (spliced (backTo pos (starEach es X.env))) Q E s
theorem nm_nil {X : Cx} : NmOk X [] [] := fun _ _ _ _ _ _ _ _ q => Calls.spliced_nil q
theorem nm_cons {X : Cx} {x : Str} {p : Pos} {es : List Expr} {c : Value} {cs : List Value} (hg : Gl X x) (hm : X.mg x = some c) (hr : NmOk X es cs) (hd : (x == ("__debug__" : Str)) = false := by decide)
    (hs : starEach (.Name x p :: es) X.env = (false, eval (.Name x p) X.env) :: starEach es X.env := by rfl) : NmOk X (.Name x p :: es) (c :: cs) := by
  intro E pos pins s σ H Q I q
  rw [hs]
  show wpAny _ _ (spliced ((false, eval (.Name x p) X.env) :: backTo pos (starEach es X.env))) _ _ s
  exact Calls.spliced_cons (ld_glob I hg hm (hr E pos pins s σ H _ I q) hd)
/-- behind the suite the clause's name is gone -/
def goneAt (i : Nat) (D : Ends) : Ends := { nx := fun σ H => D.nx (σ.set i none) H, rt := D.rt, bk := fun σ H => D.bk (σ.set i none) H, ct := fun σ H => D.ct (σ.set i none) H }
/-- what is wished of an error of the body: one of these classes catches it, and it's tracked from then on -/
def wHeld (K : PySem.W.Frag) (cs : List Value) (i : Nat) (ts : Addr → TS) (D : Ends) : WX := fun cls d σ H =>
  ∃ C dd, cls = .ref C ∧ d = some dd ∧ PySem.W.exmAny K cls cs = some true ∧ ∀ a, H a = none → ts a (goneAt i D) (σ.set i (some (.ref a))) (upd H a (ExH a C dd))
section
variable {X : Cx} {n : Str} {i : Nat} {body suite : List Stmt} {b0 : Stmt} {es : List Expr} {kt : Nat} {tpos pos pos' : Pos} {tb : WX → TS} {ts : Addr → TS} {cs : List Value}
theorem suite_plain {pins : List (Addr × Obj)} {σ : L2.St} {H : Hp} {s : Shared} (I : Inv X pins σ H s) (a : Addr) : Inv (X.suite a (X.pn ++ pins)) [] σ H s :=
  ⟨I.ok.suite _ _, I.os, I.bare, I.base, I.loc, I.cell, I.free, I.freeC, fun p hp => I.pin p (by rw [List.append_nil] at hp; exact hp), I.hok, I.len⟩
theorem unsuite_plain {pins pn' : List (Addr × Obj)} {σ : L2.St} {H : Hp} {s : Shared} {a : Addr} (I : Inv (X.suite a (X.pn ++ pins)) pn' σ H s) (ok : X.Ok) : Inv X pins σ H s :=
  ⟨ok, I.os, I.bare, I.base, I.loc, I.cell, I.free, I.freeC, fun p hp => I.pin p (List.mem_append_left _ hp), I.hok, I.len⟩
theorem ps_try_held (hs : X.stack = X.env :: X.outer) (hf : X.env.frame = some X.env.locals) (hN : X.N.Nodup) (hi : X.N[i]? = some n) (hln : X.env.kindOf n = some .local) (hex : X.ex = []) (hlen : cs.length ≤ sizeLine)
    (hE : ExmTup X.K cs) (hnm : ∀ (a : Addr) (pn : List (Addr × Obj)), NmOk (X.suite a pn) es cs)
    (hb : ∀ (W : WX) (pn : List (Addr × Obj)) (xe : Value → Shared → Prop), Takes (X.tr pn xe) W → PassesOwn (model X.prog X.w) X.A X.env xe → PSs (X.tr pn xe) body (tb W))
    (hsu : ∀ (a : Addr) (pn : List (Addr × Obj)), PSs (X.suite a pn) (b0 :: suite) (ts a)) :
    PS X (.Try body [.ExceptHandler (some (.Tuple es kt tpos)) (some n) (b0 :: suite) pos'] [] [] pos) (fun D σ H => tb (wHeld X.K cs i ts D) D σ H) := by
  refine ⟨fun pins s σ H D I h => ?_⟩
  have ok := I.ok
  have frames : X.A.frames = some (X.env :: X.outer) := by rw [ok.frames, hs]
  have isloc : Loc X.env.scope n := .inl hln
  refine wpAny_Try_except ?_
  refine wpAny_mono ((hb (wHeld X.K cs i ts D) (X.pn ++ pins) (fun e s1 => wpAny (model X.prog X.w) X.A (noteFrame e X.env) (fun _ s2 => wpAny (model X.prog X.w) X.A (setFlight e none) (fun _ s3 =>
    wpAny (model X.prog X.w) X.A (handleBy e X.env [.ExceptHandler (some (.Tuple es kt tpos)) (some n) (b0 :: suite) pos']) (SP X pins D) X.xe s3) X.xe s2) X.xe s1) (fun u s' air => ?_) PassesOwn.looking).run [] s σ H D (I.toTry _) h) (fun f s1 hsp => ?_) (fun e s1 he => he)
  · obtain ⟨a, B, sI, pins', σ', H', cls, d, rfl, J', ground, up, sky, na, os, ag, C, dd, rfl, rfl, hx, hyes⟩ := air
    have J : Inv X pins σ' H' sI := J'.ofTry ok
    have sky' : Sky B (X.env :: X.outer) a (Zc (.ref C) (some dd)) X.env.locals s'.heap := by rw [← hs]; exact sky
    show wpAny (model X.prog X.w) X.A (noteFrame (.ref a) X.env) _ _ _
    refine Sky.land Zc.steady frames hf sky' fun h3 fl3 up3 => ?_
    have J3 : Inv X pins σ' H' { s' with heap := h3 } := J.landed ground fl3.1 (up.trans up3) os ag
    obtain ⟨oe3, vs3, he3, hz3, hd3⟩ := fl3.there
    have notFr : a ∉ frs (X.env :: X.outer) := fun hm => by
      obtain ⟨_, o', e', hnf⟩ := fl3.2.2.1.mem hm
      rw [he3] at e'; cases e'
      exact hnf _ hd3
    have nL : a ≠ X.env.locals := fun z => notFr (List.mem_filterMap.mpr ⟨X.env, List.mem_cons_self, by rw [hf, z]⟩)
    have nF : a ∉ X.fs := fun hm => by
      obtain ⟨e, he, q⟩ := List.mem_filterMap.mp hm
      exact notFr (List.mem_filterMap.mpr ⟨e, List.mem_cons_of_mem _ he, q⟩)
    have notI : sI.heap.get? a = none := by
      cases q : sI.heap.get? a with
      | none => rfl
      | some o => have z := ground a o q (by rw [hs]; exact notFr); rw [fl3.2.1] at z; cases z
    have not0 : X.s_0.heap.get? a = none := by
      cases q : X.s_0.heap.get? a with
      | none => rfl
      | some o =>
        obtain ⟨o', z⟩ := J.base.there a o q (by rw [hex]; exact fun z => nomatch z)
        rw [notI] at z; cases z
    have notC : ∀ x c, X.env.cells.lookup x = some c → c ≠ a := fun x c e z => by
      obtain ⟨v, o, q, _⟩ := J.cell x c e
      rw [z, notI] at q; cases q
    have notP : ∀ p ∈ X.pn ++ pins, p.1 ≠ a := fun p hp z => by
      have q := (J.pin p hp).1
      rw [z, notI] at q; cases q
    have S3 := suite_plain J3 a
    refine wpAny_handleBy_cons (codeAny_handlers_test ?_) (by intro q; cases q)
    refine wpAny_Tuple_spliced (hnm a (X.pn ++ pins) _ _ [] _ σ' H' _ S3 ⟨hlen, ?_⟩)
    have old4 : ∀ b o, h3.get? b = some o → (h3.push { cls := .type "tuple", data := .seq cs.toArray }).get? b = some o := fun b o q => Heap.get?_push_of_some _ q
    have fl4 := flying_keeps fl3 old4
    have J4 : Inv X pins σ' H' { s' with heap := h3.push { cls := .type "tuple", data := .seq cs.toArray } } := J3.kept (t' := s'.toks) old4
    have at4 : (h3.push { cls := .type "tuple", data := .seq cs.toArray }).get? h3.objs.size = some { cls := .type "tuple", data := .seq cs.toArray } := Heap.get?_push_size _ rfl
    generalize (h3.push { cls := .type "tuple", data := .seq cs.toArray }) = h4 at old4 fl4 J4 at4 ⊢
    have tyA : PySem.W.Looks (model X.prog X.w) h4 (typeOf (.ref a)) (.ref C) := fun A Q E s k q => wpAny_typeOf_ref (k _ _ (old4 _ _ he3)) (by rw [hz3.1]; exact q)
    refine (hE (model X.prog X.w) h4 _ a (.ref C) true J4.kIn tyA at4 hx).here ?_
    refine codeAny_handlers_suite_as ?_
    refine HandSPX.lands_againZ fl4 fun h5 fl5 up5 => ?_
    obtain ⟨oe5, vs5, he5, hz5, hd5⟩ := fl5.there
    have up34 : h3.UpToSlots h4 := fun b o q _ => ⟨o.slots, old4 b o q⟩
    have J5 : Inv X pins σ' H' { s' with heap := h5 } := J.landed ground fl5.1 (((up.trans up3).trans up34).trans up5) os ag
    have T5 := track J5 na not0 nL notC notP (exH_ok (P := X.prog) (w := X.w) (H := upd H' a (ExH a C dd)) he5 hz5 hd5)
    have S5 := suite_plain T5 a
    refine store_ok (X := X.suite a (X.pn ++ pins)) (v := .ref a) S5 hN hi isloc rfl (fun s6 S6 => ?_) (.inr hln)
    refine wpAny_mono ((hsu a (X.pn ++ pins)).run [] s6 _ _ _ S6 (hyes a na)) (fun f s7 hsp => ?_) (fun _ _ z => False.elim z)
    have end_ : ∀ {σ7 : L2.St} {H7 : Hp} {Q : Shared → Prop}, Inv (X.suite a (X.pn ++ pins)) [] σ7 H7 s7 → (∀ s8, Inv X pins (σ7.set i none) H7 s8 → Q s8) →
        wpAny (model X.prog X.w) X.A (do bindName X.env n .none; unbindBehindTheSuite X.env n pos') (fun _ s8 => Q s8) X.xe s7 := fun {σ7 H7 Q} S7 hq => gone_ok (unsuite_plain S7 ok) hN hi hln hq
    cases f with
    | next =>
      obtain ⟨σ7, H7, S7, q7⟩ := hsp
      exact end_ S7 fun s8 J8 => ⟨_, _, J8, q7⟩
    | brk =>
      obtain ⟨σ7, H7, S7, q7⟩ := hsp
      exact end_ S7 fun s8 J8 => ⟨_, _, J8, q7⟩
    | cont =>
      obtain ⟨σ7, H7, S7, q7⟩ := hsp
      exact end_ S7 fun s8 J8 => ⟨_, _, J8, q7⟩
    | ret u =>
      obtain ⟨v7, σ7, H7, S7, r7, q7⟩ := hsp
      exact end_ S7 fun s8 J8 => ⟨_, _, _, J8, r7, q7⟩
  · cases f with
    | next =>
      obtain ⟨σ', H', J', q⟩ := hsp
      exact wpAny_execs_nil ⟨σ', H', J'.ofTry ok, q⟩
    | brk =>
      obtain ⟨σ', H', J', q⟩ := hsp
      exact ⟨σ', H', J'.ofTry ok, q⟩
    | cont =>
      obtain ⟨σ', H', J', q⟩ := hsp
      exact ⟨σ', H', J'.ofTry ok, q⟩
    | ret u =>
      obtain ⟨v, σ', H', J', r, q⟩ := hsp
      exact ⟨v, σ', H', J'.ofTry ok, r, q⟩
end
end Rp

namespace Rp
open PySem PySem.Spec PyProof.Rows L2 PySem.WhatX
/-- what more the class must say, so that isinstance asks its errors rightly -/
structure IsC (K : PySem.W.Frag) (C : Addr) : Prop where
  hg : PySem.W.findIn K (.ref C) "__getattribute__" = some (some (.builtin "BaseException.__getattribute__"))
  hk : PySem.W.findIn K (.ref C) "__getattr__" = some none
  hs : PySem.W.subIn K (.ref C) (.type "BaseException") = some true
  hd : PySem.W.hasDictIn K C = true
  ha : PySem.W.findIn K (.ref C) "__class__" = some (some (.builtin "object.__class__"))
  hn : PySem.W.specialIn K (.builtin "object.__class__") "__get__" = some (some (.builtin "getset_descriptor.__get__"))
  ht : PySem.W.takesIn K (.builtin "object.__class__") = some true
  hm : PySem.W.mroIn K C (.type "object") = some true
section
variable {X : Cx} {pins : List (Addr × Obj)} {σ : L2.St} {H : Hp} {s : Shared}
/-- the error and its dict, as the heap has them -/
theorem held_inst {a C d : Addr} {fs : List (Str × V)} (I : Inv X pins σ H s) (ha : H a = some (ExH a C d)) (hd : H d = some (.xd fs)) :
    ∃ (oe od : Obj), PySem.W.InstAt s.heap a oe C (some od) ∧ s.heap.get? d = some od ∧ ∃ mA, s.heap.Ns1 d mA ∧ ∀ f, RelO (fs.lookup f) (mA f) := by
  obtain ⟨⟨oe, vs, e1, e2, e3, e4⟩, _⟩ := I.hok a _ ha
  obtain ⟨mA, hns, hr⟩ := (show ObjOk X.prog X.w H s.heap d (.xd fs) from I.hok d _ hd)
  obtain ⟨od, ho, _⟩ := lookIn_ns hns
  exact ⟨oe, od, ⟨e1, e2, by unfold PySem.W.notCls; rw [e4] <;> rfl, by rw [e3]; exact ho⟩, ho, mA, hns, hr⟩
theorem IsC.cl {K : PySem.W.Frag} {C : Addr} (Z : IsC K C) : (PySem.W.clsIn K C).isSome = true := by
  obtain ⟨cd, hc, _⟩ := PySem.W.any_some Z.hd
  rw [hc]; rfl
end
section
variable {X : Cx}
/-- isinstance(e, c), e an error that is kept -/
def rIsH (K : PySem.W.Frag) : List V → Hp → VK → Prop := fun xs H Q => ∃ (a C d : Addr) (fs : List (Str × V)) (c : V) (u : Value) (b : Bool), xs = [.ref a, c] ∧ H a = some (ExH a C d) ∧ H d = some (.xd fs) ∧ IsC K C ∧ ClsV c u ∧ PySem.W.kitOne K (.ref C) u = some b ∧ Q (.bl b) H
theorem call_isH : CallR X (.builtin "isinstance") (rIsH X.K) := by
  intro pins s σ H xs us Q I r h
  obtain ⟨a, C, d, fs, c, u, b, rfl, ha, hd, Z, k, e, q⟩ := h
  obtain ⟨u1, u2, rfl, r1, r2⟩ := vals2 r
  have e2 := k.eq r2
  subst e2
  cases (show u1 = Value.ref a from r1)
  obtain ⟨oe, od, J, _⟩ := held_inst I ha hd
  exact PySem.W.kia_one (PySem.W.kitx_exc Z.cl Z.hg Z.hk Z.hs Z.ha Z.hn Z.ht Z.hm) I.kIn J e (fun z => nomatch z) fun tk => ⟨.bl b, H, I.tok tk, rfl, q⟩
/-- isinstance(e, (c1, c2, ..)) -/
def rIsHT (K : PySem.W.Frag) : List V → Hp → VK → Prop := fun xs H Q => ∃ (a C d : Addr) (fs : List (Str × V)) (tp : Addr) (cs : List V) (us : List Value) (b : Bool), xs = [.ref a, .ref tp] ∧ H a = some (ExH a C d) ∧ H d = some (.xd fs) ∧ IsC K C ∧ H tp = some (.tup cs) ∧ Paired ClsV cs us ∧ PySem.W.kitAny K (.ref C) us = some b ∧ Q (.bl b) H
theorem call_isHT : CallR X (.builtin "isinstance") (rIsHT X.K) := by
  intro pins s σ H xs us Q I r h
  obtain ⟨a, C, d, fs, tp, cs, ws, b, rfl, ha, hd, Z, hT, k, e, q⟩ := h
  obtain ⟨u1, u2, rfl, r1, r2⟩ := vals2 r
  cases (show u1 = Value.ref a from r1)
  cases (show u2 = Value.ref tp from r2)
  obtain ⟨oe, od, J, _⟩ := held_inst I ha hd
  obtain ⟨_, its, rv, o, h1, h2, n, h3⟩ := (show ObjOk X.prog X.w H s.heap tp (.tup cs) from I.hok tp _ hT)
  have e3 := ClsV.all k rv
  subst e3
  obtain ⟨oc, od', dt, sl⟩ := o
  simp only at h2 h3
  subst h2 h3
  exact PySem.W.kia_tup (PySem.W.kitx_exc Z.cl Z.hg Z.hk Z.hs Z.ha Z.hn Z.ht Z.hm) I.kIn J h1 e (fun z => nomatch z) fun tk => ⟨.bl b, H, I.tok tk, rfl, q⟩
/-- e.what, e an error that is kept -/
def tWhatH (K : PySem.W.Frag) (te : TE) : TE := fun σ H Q => te σ H fun x H1 => ∃ (a C d : Addr) (v : V), x = .ref a ∧ H1 a = some (ExH a C d) ∧ H1 d = some (.xd [(("what" : Str), v)]) ∧ IsC K C ∧ PySem.W.findIn K (.ref C) "what" = some none ∧ Q v H1
theorem pe_whatH {e : Expr} {te : TE} {pos : Pos} (he : PE X e te) (hb : attributeBase e "what" X.env (eval e X.env) = eval e X.env := by rfl) : PE X (.Attribute e "what" pos) (tWhatH X.K te) := by
  refine ⟨fun pins s σ H Q I h => ?_⟩
  refine attr_of hb (thn (he.run pins s σ H _ I h) fun u s1 hh => ?_)
  obtain ⟨x, H1, I1, rx, a, C, d, v, ex, ha, hd, Z, nw, q⟩ := hh
  subst ex
  obtain rfl : u = Value.ref a := rx
  obtain ⟨oe, od, J, ho, mA, hns, hr⟩ := held_inst I1 ha hd
  obtain ⟨od2, ho2, hl⟩ := lookIn_ns hns
  rw [ho] at ho2; cases ho2
  have l : List.lookup ("what" : Str) [(("what" : Str), v)] = some v := by simp [List.lookup]
  obtain ⟨u, hu, ru⟩ := RelO.some_of (v := v) (o := mA "what") (by rw [← l]; exact hr "what")
  exact HandSPX.exc_get I1.kIn J Z.hg Z.hk Z.hs (PySem.W.findObj_own Z.hd nw rfl (by rw [hl, hu])) (handed_of ru) ⟨v, H1, I1.tok _, ru, q⟩
end
/-! ### classes beside one another -/
theorem exm_own {K : PySem.W.Frag} {a b : Addr} {r : Bool} (hb : PySem.W.subIn K (.ref b) (.type "BaseException") = some true) (hd : PySem.W.hasDictIn K b = true) (ht : PySem.W.typeIn K (.ref b) = some (.type "type")) (h : PySem.W.subIn K (.ref a) (.ref b) = some r) :
    PySem.W.exmOne K (.ref a) (.ref b) = some r := PySem.W.exm_ref hb hd ht h
theorem kitCls_own {K : PySem.W.Frag} {a b : Addr} {r : Bool} (hb : PySem.W.subIn K (.ref b) (.type "BaseException") = some true) (hd : PySem.W.hasDictIn K b = true) (ht : PySem.W.typeIn K (.ref b) = some (.type "type")) (h : PySem.W.subIn K (.ref a) (.ref b) = some r) :
    PySem.W.kitCls K (.ref a) (.ref b) = some r := by
  have e := exm_own hb hd ht h
  unfold PySem.W.exmOne at e
  rw [if_pos (by rw [hb]; rfl)] at e
  exact e
theorem kit_own {K : PySem.W.Frag} {a b : Addr} {r : Bool} (hb : PySem.W.subIn K (.ref b) (.type "BaseException") = some true) (hd : PySem.W.hasDictIn K b = true) (ht : PySem.W.typeIn K (.ref b) = some (.type "type")) (hs : PySem.W.subIn K (.ref b) (.ref b) = some true) (h : PySem.W.subIn K (.ref a) (.ref b) = some r) :
    PySem.W.kitOne K (.ref a) (.ref b) = some r := by
  unfold PySem.W.kitOne
  by_cases c : (Value.ref a == Value.ref b) = true
  · rw [if_pos c]
    have e : a = b := Value.ref.inj (beq_iff_eq.mp c)
    subst e
    rw [hs] at h
    exact h
  · rw [if_neg c]
    exact kitCls_own hb hd ht h
theorem kit_builtin {K : PySem.W.Frag} {a : Addr} {t : String} {r : Bool} (hm : PySem.W.kitMeta t = true) (h : PySem.W.subIn K (.ref a) (.type t) = some r) : PySem.W.kitOne K (.ref a) (.type t) = some r := by
  unfold PySem.W.kitOne
  rw [if_neg (by intro z; cases (beq_iff_eq.mp z))]
  unfold PySem.W.kitCls
  first
    | (rw [if_pos hm]; exact h)
    | (simp only [hm, if_true]; exact h)
end Rp

/-! Defs that ask for a repr: they are called where no repr is under way. -/
namespace Rp
open PySem PySem.Spec PyProof.Rows L2
/-- as FnOk, but where no repr is under way -/
structure FnOkG (P : Program) (w : World) (K : PySem.W.Frag) (mg : Str → Option Value) (base : Heap) (CXX : CXT) (lev : Nat) (at_ : Addr) (data : FuncData) (pars : List Str) (promise : Sp) : Prop where
  long : ∀ vals H Q E, promise vals H Q E → vals.length = pars.length
  goes : ∀ (A : Around) (outer : List Env) (s : Shared) (H : Hp) (args : Args) (us : List Value) (vals : List V) (Q : VK) (E : XK), A.guards = some [] → Room lev A → Env0 P w K mg base A outer s H → BindsTo s data args (pars.zip us) →
    Vals vals us → promise vals H Q E → codeAny (model P w) A (.call (.ref at_) args) (CR CXX outer P w H s Q E) s
section
variable {P : Program} {w : World} {K : PySem.W.Frag} {mg : Str → Option Value} {base : Heap}
theorem okG {x qual : Str} {st : Stmt} {f : Addr} {fd : FuncData} {N ps : List Str} {lev : Nat} {promise : Sp} (F : Fun K x qual st f fd) (S : FnScope N ps (defScope st)) (long : ∀ vals H Q E, promise vals H Q E → vals.length = ps.length)
    (walk : ∀ (cdv : Value) (A : Around) (outer : List Env) (s : Shared) (H : Hp) (vals : List V) (Q : VK) (E : XK), A.guards = some [] → Room lev (A.deeper (envOfC qual (defScope st) s.heap.objs.size f cdv)) → promise vals H Q E →
      ∃ t, PSs (cxOf CX0 P w K mg base N qual (defScope st) f cdv A outer s H E).nox (defBody st) t ∧ t { nx := fun _ H' => Q .non H', rt := Q } (start N vals) H) : FnOkG P w K mg base CX0 (lev + 1) f fd ps promise := by
  obtain ⟨oc, od, kV, doc, pm, an, cdv, ct, osl, rfl, lk, hcd⟩ := F.ex
  refine ⟨long, fun A outer s H args us vals Q E noRepr room env binds rel asked => ?_⟩
  have inK : K.In s.heap := env.mod.kin.keeps fun b o e => (env.bs b o e).1
  have noLim : s.heap.NoLimit := env.mod.nolimit.keeps fun b o e => (env.bs b o e).1
  have kinds : ∀ y ∈ ps.zip us, (defScope st).names.lookup y.1 = some .local ∨ ((defScope st).names.lookup y.1 = some .cell ∧ ((cellsFrom (s.heap.objs.size + 1) (defScope st).names []).lookup y.1).isSome = true) := fun y hy =>
    (S.par y.1 (List.of_mem_zip (a := y.1) (b := y.2) hy).1).elim .inl fun c => .inr ⟨c, PySem.W.cellsFrom_some _ _ _ (.inl c)⟩
  refine codeAny_call_function room.depth (inK _ _ lk) rfl S.co S.gen rfl (PySem.W.codeRec_of inK hcd) (binds _ _ _ _ ?_)
  refine wpAny_newFunctionEnv_cells S.kind kinds fun e2 he2 s1 entered => ?_
  subst he2
  refine ⟨noLim.keeps entered.toInCall.keep, codeAny_func ?_⟩
  obtain ⟨t, body, reading⟩ := walk cdv A outer s H vals Q E noRepr (room.deeper _) asked
  have I := inv_start (CX := CX0) (E := E) S room.hd env (long _ _ _ _ asked) rel entered
  refine wpAny_mono (body.nox.run [] s1 (start N vals) H _ I reading) (fun flow s2 ends => ?_) fun e s2 ends => ends
  cases flow with
  | ret u =>
    obtain ⟨v, σ2, H2, J, rv, q⟩ := ends
    exact ⟨v, H2, J.os, J.bare, J.base, J.hok, rv, q⟩
  | next =>
    obtain ⟨σ2, H2, J, q⟩ := ends
    exact ⟨.non, H2, J.os, J.bare, J.base, J.hok, rfl, q⟩
  | brk => exact (let ⟨_, _, _, q⟩ := ends; False.elim q)
  | cont => exact (let ⟨_, _, _, q⟩ := ends; False.elim q)
end
section
variable {X : Cx}
theorem pe_callG {CXX : CXT} {lev : Nat} {f : Addr} {fd : FuncData} {ps : List Str} {promise : Sp} {E : XK} {x : Str} {p pos : Pos} {e : Expr} {es : List Expr} {t : TA}
    (F : FnOkG X.prog X.w X.K X.mg X.base CXX lev f fd ps promise) (noRepr : X.A.guards = some []) (room : Room lev X.A) (hg : Gl X x) (hm : X.mg x = some (.ref f)) (hk : PySem.W.keepIn X.K (.ref f) = true) (hb : Binds X.K fd ps []) (hx : Passes CXX X E)
    (ha : PA X (e :: es) t) (hdb : (x == ("__debug__" : Str)) = false := by decide) (he : starEach (e :: es) X.env = (false, eval e X.env) :: starEach es X.env := by rfl) (hpl : (backTo pos (starEach es X.env)).any (·.1) = false := by rfl) :
    PE X (.Call (.Name x p) (e :: es) [] pos) (tCall promise [] E t) := by
  refine ⟨fun pins s σ H Q I h => wpAny_Call_Name_kw (ld_glob I hg hm (PySem.W.callWith_K (h₀ := X.base) I.ok.mod.kin hk (thn (ha.run pos pins s σ H _ I h) fun us s1 z => ?_) he hpl) hdb)⟩
  obtain ⟨vals, H1, I1, rel, asked⟩ := z
  refine ⟨I1.kIn, ?_⟩
  have rel0 : Vals (vals ++ []) (us ++ []) := rel.append .nil
  have lens : (us ++ []).length = ps.length := by rw [← rel0.length]; exact F.long _ _ _ _ asked
  refine wpAny_call (codeAny_mono (F.goes X.A X.stack s1 H1 ⟨us, []⟩ (us ++ []) (vals ++ []) Q E noRepr room I1.env0 (hb s1 us I1.kIn lens) rel0 asked) fun r s2 ends => ?_)
  cases r with
  | error err => exact hx pins σ H1 s1 err s2 I1 ends
  | ok fl =>
    cases fl with
    | ret u => exact I1.after ends
    | next => exact False.elim ends
    | brk => exact False.elim ends
    | cont => exact False.elim ends
/-- repr of data: a text that hangs on the data alone -/
def rRepr (K : PySem.W.Frag) : List V → Hp → VK → Prop := fun xs H Q => ∃ (a : Addr) (d : PyData), xs = [.ref a] ∧ Dp K H (.ref a) d ∧ d.showable = true ∧ d.hasDict = false ∧ d.depth ≤ 50 ∧ d.shown.length ≤ sizeLine ∧ Q (.str d.shown) H
theorem call_repr (noRepr : X.A.guards = some []) (hu : X.A.units + 64 < cLine) : CallR X (.builtin "repr") (rRepr X.K) := by
  intro pins s σ H xs us Q I r h
  obtain ⟨a, d, rfl, hd, h1, h2, h3, h4, q⟩ := h
  obtain ⟨u, rfl, ru⟩ := vals1 r
  obtain rfl : u = Value.ref a := ru
  obtain ⟨as, rd⟩ := Dp.reads I d (.ref a) (.ref a) hd rfl
  refine repr_of_reads' rd h1 (fun z => by rw [h2] at z; cases z) noRepr (by omega) (fun _ _ e => e) (fun h' t tk keep => ?_) h4
  exact ⟨.str d.shown, H, I.kept (t' := tk) keep, ⟨_, rfl⟩, q⟩
end
/-- the law's own call: nothing but the script is tracked at its entry -/
theorem law_goes {P : Program} {w : World} {K : PySem.W.Frag} {mg mb : Str → Option Value} {lev : Nat} {fa a : Addr} {fd : FuncData} {x : Str} {promise : Sp} {s : Shared} {vals : List Value} {ns : List Int}
    (inK : K.In s.heap) (globs : s.heap.Ns mainGlobals mg) (blts : s.heap.Ns builtinsNs mb) (boot : ∀ y : Str, y ≠ "__name__" → mb y = bootBuiltins y) (noLim : s.heap.NoLimit) (noGens : s.gens = #[])
    (script : s.heap.get? a = some { cls := .type "list", data := .seq vals.toArray }) (whole : IntsAre vals ns) (few : ns.length ≤ sizeLine) (room : Room lev callerA)
    (F : ∀ base : Heap, K.In base → base.Ns mainGlobals mg → FnOkG P w K mg base CX0 lev fa fd [x] promise) (binds : ∀ (s : Shared) (u : Value), BindsTo s fd ⟨[u], []⟩ [(x, u)])
    (asked : ∀ H : Hp, SqL K H a (ns.map V.int) → promise [.ref a] H (fun v _ => v = .bl true) fun _ _ _ => False) :
    codeAny (model P w) callerA (.call (.ref fa) ⟨[.ref a], []⟩) (fun r s' => r = .ok (.ret (.bool true)) ∧ OldK s.heap s'.heap ∧ s'.os = s.os ∧ AllBare s'.gens) s := by
  have rel := vals_ints whole
  have many := whole.length
  -- whichever way the script stands
  have main : ∀ H : Hp, (∀ b, H b = none ∨ ∃ ob xs, H b = some (.frz ob (.lst xs))) → SqL K H a (ns.map V.int) → HOk P w H s.heap → (∀ b, H b ≠ none → b = a) → (H a ≠ none → K.lookup a = none) →
      codeAny (model P w) callerA (.call (.ref fa) ⟨[.ref a], []⟩) (fun r s' => r = .ok (.ret (.bool true)) ∧ OldK s.heap s'.heap ∧ s'.os = s.os ∧ AllBare s'.gens) s := by
    intro H frozen there okH alone notK
    have nsB : ∀ {b : Addr} {m : Str → Option Value}, s.heap.Ns b m → (hidT s.heap H).Ns b m := fun {b m} z => by
      obtain ⟨o, ents, cnt, e, dt, rest⟩ := z
      refine ⟨o, ents, cnt, hidT_get e ?_, dt, rest⟩
      cases q : H b with
      | none => rfl
      | some u =>
        obtain rfl := alone b (by rw [q]; simp)
        rw [script] at e; cases e
        cases dt
    have inB : K.In (hidT s.heap H) := fun b o e => hidT_get (inK b o e) (by
      cases q : H b with
      | none => rfl
      | some u =>
        obtain rfl := alone b (by rw [q]; simp)
        rw [notK (by rw [q]; simp)] at e; cases e)
    have env : Env0 P w K mg (hidT s.heap H) callerA [] s H := ⟨rfl, ⟨inB, nsB globs, ⟨mb, nsB blts, boot⟩, let ⟨mc, z1, z2⟩ := noLim; ⟨mc, nsB z1, z2⟩⟩, fun b o e => of_hidT e, Nat.le_of_eq (hidT_size _ _), trivial,
      fun b z => absurd (show b ∈ ([] : List Addr) from z) (by simp), okH, .of_eq noGens⟩
    refine codeAny_mono ((F _ inB (nsB globs)).goes callerA [] s H ⟨[.ref a], []⟩ [.ref a] [.ref a] _ _ rfl room env (binds s (.ref a)) (.cons rfl .nil) (asked H there)) fun r s' ends => ?_
    cases r with
    | error e => exact False.elim ends
    | ok fl =>
      cases fl with
      | next => exact False.elim ends
      | brk => exact False.elim ends
      | cont => exact False.elim ends
      | ret u =>
        obtain ⟨v, H', sameOs, bare, kept, okH', ru, q⟩ := ends
        have q : v = .bl true := q
        subst q
        obtain rfl : u = Value.bool true := ru
        refine ⟨rfl, OldK.of_keep fun b o e => ?_, sameOs, bare⟩
        cases hb : H b with
        | none => exact kept.keep b o e hb (by intro z; exact absurd (show b ∈ ([] : List Addr) from z) (by simp)) (by simp)
        | some u =>
          rcases frozen b with z | ⟨ob, xs, z⟩
          · rw [hb] at z; cases z
          · have e1 := (okH b _ z).1
            have e2 := (okH' b _ (kept.frzs b ob _ z)).1
            rw [e] at e1; cases e1
            exact e2
  cases inOwn : K.lookup a with
  | some o =>
    have e := inK a o inOwn
    rw [script] at e
    cases e
    exact main (fun _ => none) (fun _ => .inl rfl) (.inr ⟨_, vals.toArray, _, inOwn, rfl, rfl, rfl, by rw [List.size_toArray, many]; exact few, by simpa using rel⟩) (fun b u z => nomatch z) (fun b z => absurd rfl z) (fun z => absurd rfl z)
  | none =>
    let Hs : Hp := fun b => if b = a then some (.frz { cls := .type "list", data := .seq vals.toArray } (.lst (ns.map V.int))) else none
    have at_a : Hs a = some (.frz { cls := .type "list", data := .seq vals.toArray } (.lst (ns.map V.int))) := if_pos rfl
    have off : ∀ b, b ≠ a → Hs b = none := fun b h => if_neg h
    refine main Hs (fun b => ?_) (.inl (.inr ⟨_, at_a⟩)) (fun b u z => ?_) (fun b z => ?_) (fun _ => inOwn)
    · by_cases hb : b = a
      · subst hb; exact .inr ⟨_, _, at_a⟩
      · exact .inl (off b hb)
    · by_cases hb : b = a
      · subst hb
        rw [at_a] at z; cases z
        exact ⟨script, by rw [List.length_map]; exact few, vals, _, rel, script⟩
      · rw [off b hb] at z; cases z
    · by_cases hb : b = a
      · exact hb
      · exact absurd (off b hb) z
theorem walk_goes {l : PySem.W.OpenLaw} {n lev : Nat} {q : Program} {loose : List Str} {XP : (Str → Option Value) → Heap → Prop} {YP : World → Heap → Prop} {d : DefRec} {K : Params → PySem.W.Frag} {promise : PySem.W.Frag → Sp} {x : Str}
    (hn : l.most = some n) (hn2 : n ≤ sizeLine) (hdf : d.params.defaults = []) (room : Room lev callerA) (hY : ∀ (w : World) (h : Heap), YP w h → (K w.params).In h)
    (F : ∀ (w : World) (mg : Str → Option Value) (fa : Addr) (h : Heap), (K w.params).In h → h.Ns mainGlobals mg → mg d.name = some (.ref fa) →
      ∃ fd : FuncData, (∀ (s : Shared) (u : Value), BindsTo s fd ⟨[u], []⟩ [(x, u)]) ∧ ∀ base : Heap, (K w.params).In base → base.Ns mainGlobals mg → FnOkG l.prog w (K w.params) mg base CX0 lev fa fd [x] (promise (K w.params)))
    (asked : ∀ (K : PySem.W.Frag) (H : Hp) (a : Addr) (ns : List Int), ns.length ≤ n → SqL K H a (ns.map V.int) → promise K [.ref a] H (fun v _ => v = .bl true) fun _ _ _ => False) :
    PySem.W.WalkO q loose XP YP l.row.toRowW d [] (fun f vs => PySem.call f vs) := by
  refine Att.attach_call hn hdf fun w s0 s1 mg mb fa o pm cd doc a vs ns G Y ho hd hcd hmg hobj hints hlen hg => ?_
  obtain ⟨fd, hb, hF⟩ := F w mg fa _ (hY w _ Y) G.T.g hmg
  exact law_goes (hY w _ Y) G.T.g G.T.b G.T.builtins G.T.nolimit hg hobj hints (Nat.le_trans hlen hn2) room hF hb (fun H hS => asked (K w.params) H a ns hlen hS)
end Rp

/-! Sets whose members are keys on the heap (tuples of texts, nested ones), fewer than 64. -/
namespace Rp
open PySem PySem.Spec PyProof.Rows L2
/-- what a kind of keys on the heap brings along, to stand in a set -/
structure SetKey {P : Program} {w : World} {K : Type} [DecidableEq K] (kd : HeapKind P w K) : Prop where
  same : ∀ {h h' : Heap} {k : K} {a : Addr}, (∀ b o vs n, h.get? b = some o → o.data = .seq vs n → h'.get? b = some o) → kd.is h k a → kd.is h' k a
  noCl : ∀ {A : Around} {E : Value → Shared → Prop} {s : Shared} {k : K} {a : Addr} {Q : Bool → Shared → Prop}, kd.is s.heap k a → Q false s → wpAny (model P w) A (ofAClassStatement 8 (.ref a)) Q E s
  byVa : ∀ {A : Around} {E : Value → Shared → Prop} {s : Shared} {k : K} {a : Addr} {Q : Bool → Shared → Prop}, kd.is s.heap k a → (∀ b, Q b s) → wpAny (model P w) A (hashByValue 8 (.ref a)) Q E s
section
variable {P : Program} {w : World} {K : Type} [DecidableEq K] {kd : HeapKind P w K} {A : Around} {E : Value → Shared → Prop} {s : Shared}
/-- a member as the table keeps it -/
def mem1 (kd : HeapKind P w K) (p : Addr × K) : Int × Value := (kd.hash p.2, .ref p.1)
def mhs (kd : HeapKind P w K) (L : List (Addr × K)) : List Int := L.map fun p => kd.hash p.2
theorem mhs_len (L : List (Addr × K)) : (mhs kd L).length = L.length := List.length_map ..
/-- the c-th step of a hash's way -/
abbrev stp (m : Nat) (h : Int) (c : Nat) : SetTable.Probe := nth m (runAt m (SetTable.bits h % (m + 1)) (SetTable.bits h)) c
structure Members (kd : HeapKind P w K) (h : Heap) (a : Addr) (L : List (Addr × K)) (es : Array (Int × Value)) (ep : Nat) (t : SetTable) : Prop where
  at_ : ∃ o, h.get? a = some o ∧ o.ExactSet ∧ o.data = .set es ep t
  are : es.toList = L.map (mem1 kd)
  tab : TabOk t (mhs kd L)
  one : (L.map (·.2)).Nodup
  key : ∀ p ∈ L, kd.is h p.2 p.1
  led : w.params.followText "set-order" = true ∨ t.led = true
  low : L.length * 5 < t.mask * 3
  few : L.length < 64
section
variable {a : Addr} {L : List (Addr × K)} {es : Array (Int × Value)} {ep : Nat} {t : SetTable}
theorem are_size (e : es.toList = L.map (mem1 kd)) : es.size = L.length := by
  rw [← Array.length_toList, e, List.length_map]
theorem are_at (e : es.toList = L.map (mem1 kd)) {i : Nat} {p : Addr × K} (h : L[i]? = some p) : es[i]? = some (kd.hash p.2, Value.ref p.1) := by
  have q : es.toList[i]? = some (mem1 kd p) := by rw [e, List.getElem?_map, h]; rfl
  rw [← Array.getElem?_toList]; exact q
theorem fits_of {n : Nat} (h1 : t.place.size = n) (h2 : t.dummies = #[]) (h3 : n ≤ t.mask) : t.fits n = true := by
  simp only [SetTable.fits, SetTable.fill, h2, h1, Bool.and_eq_true, beq_iff_eq, decide_eq_true_eq]
  exact ⟨trivial, by simpa using h3⟩
theorem Members.fit (R : Members kd s.heap a L es ep t) : t.fits es.size = true := by
  have h1 := R.tab.sz
  have h2 := R.low
  have h3 := are_size R.are
  rw [mhs_len] at h1
  exact fits_of (h1.trans h3.symm) R.tab.dm (by omega)
theorem Members.ngw (R : Members kd s.heap a L es ep t) : ¬ t.gaveWay = true := by
  have h := mask_odd R.tab.mok
  simp [SetTable.gaveWay, h]
theorem stp_dummy (m : Nat) (h : Int) (c : Nat) : (stp m h c).dummy = none := by
  have go : ∀ n (p : SetTable.Probe), p.dummy = none → (nth m p n).dummy = none := by
    intro n
    induction n with
    | zero => exact fun p e => e
    | succ n ih => exact fun p e => ih (adv m p) (by unfold adv; split <;> exact e)
  exact go c _ rfl
/-- no search among such keys shows the table -/
theorem unseen (SK : SetKey kd) {k : K} {b : Addr} {Q : Bool → Shared → Prop} (hk : kd.is s.heap k b) {ys : List Value} (hy : ∀ y ∈ ys, ∃ k' c, y = Value.ref c ∧ kd.is s.heap k' c) (h : Q false s) :
    wpAny (model P w) A (searchCouldBeSeen (.ref b) ys) Q E s := by
  unfold searchCouldBeSeen
  refine wpAny_bind (wpAny_forIn_list _ (fun todo r z => r.1 = none ∧ z = s ∧ ∀ y ∈ todo, ∃ k' c, y = Value.ref c ∧ kd.is s.heap k' c) _ ?_ ?_ _ _ ⟨rfl, rfl, hy⟩)
  · rintro v todo r z ⟨_, rfl, al⟩
    have al' := fun u hu => al u (List.mem_cons_of_mem v hu)
    obtain ⟨k', c, rfl, hc⟩ := al v List.mem_cons_self
    dsimp only
    by_cases hv : (b == c || (carriedByValue (.ref b) && carriedByValue (.ref c))) = true
    · exact wp_if_pos hv (wpAny_pure ⟨rfl, rfl, al'⟩)
    · refine wp_if_neg hv (wpAny_bind (kd.quiet hk ?_))
      simp only [Bool.not_true, Bool.false_eq_true, if_false]
      refine wpAny_bind (kd.quiet hc ?_)
      simp only [Bool.not_true, Bool.false_eq_true, if_false]
      refine wpAny_bind (SK.noCl hk ?_)
      simp only [Bool.false_eq_true, if_false]
      refine wpAny_bind (SK.noCl hc ?_)
      simp only [Bool.false_eq_true, if_false]
      exact wpAny_pure ⟨rfl, rfl, al'⟩
  · rintro ⟨r1, r2⟩ z ⟨hr, rfl, _⟩
    cases hr
    exact wpAny_pure h

/-- the way of k's hash in t ends at its K-th step, the first free place -/
structure Ends (kd : HeapKind P w K) (t : SetTable) (k : K) (N : Nat) : Prop where
  lt : N < 10 * SetTable.turns t.mask
  out : way t.mask (kd.hash k) N ∉ t.place.toList
  in_ : ∀ c, c < N → way t.mask (kd.hash k) c ∈ t.place.toList
/-- the members that are k still lie ahead of step c -/
def Ahead (kd : HeapKind P w K) (t : SetTable) (k : K) (N c : Nat) (L : List (Addr × K)) : Prop :=
  ∀ (i : Nat) p, L[i]? = some p → p.2 = k → ∃ d, c ≤ d ∧ d < N ∧ t.place.toList[i]? = some (way t.mask (kd.hash k) d)

theorem seek (SK : SetKey kd) (R : Members kd s.heap a L es ep t) {x : Addr} {k : K} (hx : kd.is s.heap k x) (hu : kd.room A) {N : Nat} (W : Ends kd t k N) {Q : SetFound → Shared → Prop}
    (yes : k ∈ L.map (·.2) → Q (.there none) s) (no : k ∉ L.map (·.2) → Q (.free (way t.mask (kd.hash k) N) false) s) :
    ∀ (f c : Nat) (st : Option SetTable.Probe), st.getD (t.probeStart (kd.hash k)) = stp t.mask (kd.hash k) c → c ≤ N → N - c < f → Ahead kd t k N c L →
      wpAny (model P w) A (setSearchFrom a (.ref x) (kd.hash k) true f st) Q E s := by
  intro f
  induction f with
  | zero => exact fun c st _ _ h => absurd h (Nat.not_lt_zero _)
  | succ f ih =>
    intro c st est hc hf ahead
    obtain ⟨o, ho, hex, hd⟩ := R.at_
    rw [setSearchFrom_succ]
    refine wpAny_bind (wpAny_setState_of ho hd R.fit ?_)
    dsimp only
    refine wp_if_neg R.ngw ?_
    try refine wpAny_bind (wpAny_pure ?_)
    have sh : ∀ q, nth t.mask (stp t.mask (kd.hash k) c) q = stp t.mask (kd.hash k) (c + q) := fun q => (nth_add t.mask c _ q).symm
    have shj : ∀ q, (nth t.mask (stp t.mask (kd.hash k) c) q).j = way t.mask (kd.hash k) (c + q) := fun q => by rw [sh]
    have eN : c + (N - c) = N := by omega
    have G := go_spec t R.tab.ris R.tab.dm (fun i => (es[i]?.map (·.1)).getD 0) (kd.hash k) (10 * SetTable.turns t.mask) (N - c) _ (stp_dummy t.mask (kd.hash k) c) (by have := W.lt; omega)
      (fun q hq => by rw [shj]; exact W.in_ _ (by omega)) (by rw [shj, eN]; exact W.out)
    have hAt : ∀ (i : Nat) p, L[i]? = some p → (es[i]?.map (·.1)).getD 0 = kd.hash p.2 := fun i p hp => by rw [are_at R.are hp]; rfl
    rcases G with ⟨q, i, hq, hi, hh, miss, hpr⟩ | ⟨miss, hpr⟩
    · have hpr' : t.probe (fun i => (es[i]?.map (·.1)).getD 0) (kd.hash k) (st.getD (t.probeStart (kd.hash k))) = some (.candidate (way t.mask (kd.hash k) (c + q)) i (stp t.mask (kd.hash k) (c + (q + 1)))) := by
        rw [est, ← shj, ← sh]; exact hpr
      rw [hpr']
      dsimp only
      rw [shj] at hi
      have hil : i < L.length := by
        have l1 := (List.getElem?_eq_some_iff.mp hi).1
        have l2 := R.tab.sz
        rw [mhs_len] at l2
        rw [Array.length_toList] at l1
        omega
      obtain ⟨p, hp⟩ : ∃ p, L[i]? = some p := ⟨_, List.getElem?_eq_getElem hil⟩
      have hpm : p ∈ L := List.mem_of_getElem? hp
      have live : t.slot (way t.mask (kd.hash k) (c + q)) = .live i := slot_live R.tab.ris hi
      have tail : wpAny (model P w) A (searchRest a (.ref x) (kd.hash k) true f es t (way t.mask (kd.hash k) (c + q)) i (stp t.mask (kd.hash k) (c + (q + 1)))) Q E s := by
        unfold searchRest
        rw [are_at R.are hp]
        dsimp only
        refine wpAny_bind (wpAny_holding (kd.eqBool hu (R.key p hpm) hx ?_))
        refine wpAny_bind (wpAny_setState_of ho hd R.fit ?_)
        dsimp only
        by_cases hkk : p.2 = k
        · exact wp_if_pos (by simp [hkk]) (wpAny_pure (yes (List.mem_map.mpr ⟨p, hpm, hkk⟩)))
        · refine wp_if_neg (by simp [hkk]) ?_
          try refine wpAny_bind (wpAny_pure ?_)
          rw [sameMem]
          dsimp only
          simp only [if_true, live, are_at R.are hp]
          refine wpAny_bind (wpAny_isSame_ref_self (wpAny_bind (wpAny_pure ?_)))
          simp only [if_true]
          refine wp_if_neg (by simp [hkk]) (ih (c + (q + 1)) _ rfl (by omega) (by omega) ?_)
          intro i0 p0 h0 hk0
          obtain ⟨d, d1, d2, d3⟩ := ahead i0 p0 h0 hk0
          refine ⟨d, ?_, d2, d3⟩
          rcases Nat.lt_trichotomy d (c + q) with z | z | z
          · refine absurd ?_ (miss (d - c) i0 (by omega) (by rw [shj, show c + (d - c) = d by omega]; exact d3))
            show (es[i0]?.map (·.1)).getD 0 = kd.hash k
            rw [hAt i0 p0 h0, hk0]
          · rw [z] at d3
            have s0 := slot_live R.tab.ris d3
            rw [live] at s0
            cases s0
            rw [hp] at h0
            cases h0
            exact absurd hk0 hkk
          · omega
      by_cases hl : t.led = true
      · refine wp_if_neg (by simp [hl]) ?_
        try refine wpAny_bind (wpAny_pure ?_)
        exact tail
      · refine wp_if_pos (by simp [hl]) (wpAny_bind (unseen SK hx (fun y hy => ?_) ?_))
        · obtain ⟨e, he, rfl⟩ := List.mem_map.mp hy
          have he2 : e ∈ es.toList := by
            have : e ∈ es ∧ e.1 = kd.hash k := by simpa using he
            simpa using this.1
          rw [R.are] at he2
          obtain ⟨p2, hp2, rfl⟩ := List.mem_map.mp he2
          exact ⟨p2.2, p2.1, rfl, R.key p2 hp2⟩
        · refine wp_if_neg (by decide) ?_
          try refine wpAny_bind (wpAny_pure ?_)
          exact tail
    · have hpr' : t.probe (fun i => (es[i]?.map (·.1)).getD 0) (kd.hash k) (st.getD (t.probeStart (kd.hash k))) = some (.empty (way t.mask (kd.hash k) N) none) := by
        rw [est, show way t.mask (kd.hash k) N = (nth t.mask (stp t.mask (kd.hash k) c) (N - c)).j by rw [shj, eN]]
        exact hpr
      rw [hpr']
      dsimp only
      refine wpAny_pure (no fun hm => ?_)
      obtain ⟨p0, m0, hk0⟩ := List.mem_map.mp hm
      obtain ⟨i0, h0⟩ := List.mem_iff_getElem?.mp m0
      obtain ⟨d, d1, d2, d3⟩ := ahead i0 p0 h0 hk0
      refine absurd ?_ (miss (d - c) i0 (by omega) (by rw [shj, show c + (d - c) = d by omega]; exact d3))
      show (es[i0]?.map (·.1)).getD 0 = kd.hash k
      rw [hAt i0 p0 h0, hk0]

theorem sought (SK : SetKey kd) (R : Members kd s.heap a L es ep t) {x : Addr} {k : K} (hx : kd.is s.heap k x) (hu : kd.room A) {Q : SetFound → Shared → Prop}
    (yes : k ∈ L.map (·.2) → Q (.there none) s) (no : ∀ N, k ∉ L.map (·.2) → Ends kd t k N → Q (.free (way t.mask (kd.hash k) N) false) s) :
    wpAny (model P w) A (setSearch a (.ref x) (kd.hash k) true) Q E s := by
  have hlow := R.low
  obtain ⟨N, e1, e2, e3⟩ := R.tab.first (by rw [mhs_len]; omega) (kd.hash k)
  have hN : N < 100000 := by
    have : 10 * SetTable.turns t.mask ≤ 1420 := by
      unfold SetTable.turns
      rcases R.tab.mok with e | e | e <;> omega
    omega
  unfold setSearch
  refine seek SK R hx hu ⟨e1, e2, e3⟩ yes (fun hn => no N hn ⟨e1, e2, e3⟩) 100000 0 none rfl (Nat.zero_le _) hN fun i p hp hk => ?_
  have hi : (mhs kd L)[i]? = some (kd.hash k) := by
    unfold mhs
    rw [List.getElem?_map, hp, ← hk]; rfl
  have hil : i < t.place.toList.length := by
    have l1 := (List.getElem?_eq_some_iff.mp hp).1
    have l2 := R.tab.sz
    rw [mhs_len] at l2
    rw [Array.length_toList, l2]
    exact l1
  obtain ⟨c, hc, e⟩ := R.tab.before e2 hi (List.getElem?_eq_getElem hil)
  exact ⟨c, Nat.zero_le _, hc, by rw [List.getElem?_eq_getElem hil, e]⟩

/-! ### the table laid anew -/
theorem SetKey.but (SK : SetKey kd) {h h' : Heap} {k : K} {b : Addr} {o : Obj} (hb : kd.is h k b) (ho : h.get? a = some o) (hd : o.data = .set es ep t) (hs : Heap.SameBut a h h') : kd.is h' k b :=
  SK.same (fun c u vs n hc hu => (hs.2 c (by
    rintro rfl
    rw [ho] at hc
    cases hc
    rw [hd] at hu
    cases hu)).trans hc) hb
theorem SetKey.grown (SK : SetKey kd) {h h' : Heap} {k : K} {b : Addr} (hb : kd.is h k b) (hk : ∀ c o, h.get? c = some o → h'.get? c = some o) : kd.is h' k b := SK.same (fun c o _ _ hc _ => hk c o hc) hb
theorem ordered (order : Array Nat) (hr : es.toList = L.map (mem1 kd)) (hp : order.toList.Perm (List.range L.length)) :
    ∃ M, (order.filterMap (es[·]?)).toList = M.map (mem1 kd) ∧ M.Perm L ∧ mhs kd M = order.toList.map fun i => (es.map (·.1)).getD i 0 := by
  refine ⟨order.toList.filterMap (fun i => L[i]?), ?_, ?_, ?_⟩
  · rw [Array.toList_filterMap, List.map_filterMap]
    congr 1
    funext i
    show es[i]? = (L[i]?).map (mem1 kd)
    rw [← Array.getElem?_toList, hr, List.getElem?_map]
  · refine (hp.filterMap _).trans ?_
    have go : ∀ n, n ≤ L.length → (List.range n).filterMap (fun i => L[i]?) = L.take n := by
      intro n
      induction n with
      | zero => exact fun _ => rfl
      | succ n ih =>
        intro hn
        have hlt : n < L.length := hn
        rw [List.range_succ, List.filterMap_append, ih (Nat.le_of_lt hlt), List.take_succ]
        simp [List.getElem?_eq_getElem hlt]
    rw [go L.length (Nat.le_refl _), List.take_length]
  · have go : ∀ l : List Nat, (∀ i ∈ l, i < L.length) → mhs kd (l.filterMap fun i => L[i]?) = l.map fun i => (es.map (·.1)).getD i 0 := by
      intro l
      induction l with
      | nil => exact fun _ => rfl
      | cons i l ih =>
        intro hl
        have hi := hl i List.mem_cons_self
        have e5 : (es.map (·.1))[i]? = some (kd.hash (L[i]).2) := by
          rw [Array.getElem?_map, are_at hr (List.getElem?_eq_getElem hi)]; rfl
        rw [List.filterMap_cons_some (List.getElem?_eq_getElem hi), List.map_cons, ← ih fun j hj => hl j (List.mem_cons_of_mem _ hj), Array.getD_eq_getD_getElem?, e5]
        rfl
    exact go order.toList fun i hi => List.mem_range.mp (hp.mem_iff.mp hi)
theorem laidAnew (SK : SetKey kd) {o : Obj} (ho : s.heap.get? a = some o) (hex : o.ExactSet) (hd : o.data = .set es ep t) (hr : es.toList = L.map (mem1 kd)) (hsz : t.place.size = es.size) (hdm : t.dummies = #[]) (hfl : es.size ≤ t.mask)
    (nd : (L.map (·.2)).Nodup) (ks : ∀ p ∈ L, kd.is s.heap p.2 p.1) (ld : w.params.followText "set-order" = true ∨ t.led = true) (few : L.length < 64) {wanted M : Nat}
    (hw : SetTable.sizeAbove wanted - 1 = M) (hM : MaskOk M) (hw2 : SetTable.sizeAbove wanted ≤ 128) (hn : L.length * 5 < M * 3) {Q : Unit → Shared → Prop}
    (hQ : ∀ h' L' es' ep' t', Heap.SameBut a s.heap h' → Members kd h' a L' es' ep' t' → L'.Perm L → Q () { s with heap := h' }) : wpAny (model P w) A (setRelay a wanted) Q E s := by
  have hsl := are_size hr
  obtain ⟨t', order, e, hp, T, em, el, epl, _⟩ := relaid_ok t (hs := es.map (·.1)) (wanted := wanted) hw hM (by rw [Array.size_map, hsl]; omega)
  rw [Array.size_map, hsl] at hp
  obtain ⟨M2, r1, r2, r3⟩ := ordered order hr hp
  rw [← r3] at T
  have hs2 : (order.filterMap (es[·]?)).size = es.size := by rw [are_size r1, r2.length_eq, hsl]
  rw [setRelay_eq]
  refine wpAny_bind (wpAny_setState_of ho hd (fits_of hsz hdm hfl) ?_)
  dsimp only
  refine wp_if_neg (by rw [sizeLine_eq]; omega) ?_
  try refine wpAny_bind (wpAny_pure ?_)
  rw [e]
  dsimp only
  refine wpAny_bind (wp_if_neg (by rw [hs2]; simp) ?_)
  try refine wpAny_bind (wpAny_pure ?_)
  refine wpAny_pure ?_
  dsimp only
  refine wpAny_storeSet_of ho hd ?_ (by rw [hs2, hsl, sizeLine_eq]; omega)
  have sb : Heap.SameBut a s.heap (s.heap.update a (Obj.putSet (order.filterMap (es[·]?)) t')) := Heap.SameBut.update ..
  exact hQ _ M2 (order.filterMap (es[·]?)) (ep + 1) t' sb ⟨⟨_, store_at ho hd, ⟨hex.1, hex.2.1, hex.2.2⟩, rfl⟩, r1, T, (r2.map (·.2)).nodup_iff.mpr nd, fun p hpm => SK.but (ks p (r2.mem_iff.mp hpm)) ho hd sb,
    el ▸ ld, by rw [r2.length_eq, em]; exact hn, by rw [r2.length_eq]; exact few⟩ r2
theorem mid_perm {α : Type} (l : List α) (p : Nat) (x : α) : (l.take p ++ x :: l.drop p).Perm (x :: l) := by
  simpa [List.take_append_drop] using (List.perm_middle : (l.take p ++ x :: l.drop p).Perm (x :: (l.take p ++ l.drop p)))
/-- one more, or it's there -/
theorem added (SK : SetKey kd) (R : Members kd s.heap a L es ep t) {x : Addr} {k : K} (hx : kd.is s.heap k x) (hu : kd.room A) (hfew : L.length + 1 < 64) {Q : Bool → Shared → Prop}
    (hQ : ∀ b h' L' es' ep' t', Heap.SameBut a s.heap h' → Members kd h' a L' es' ep' t' → (k ∈ L.map (·.2) → L' = L) → (k ∉ L.map (·.2) → L'.Perm ((x, k) :: L)) → Q b { s with heap := h' }) :
    wpAny (model P w) A (setAddHashed a (.ref x) (kd.hash k)) Q E s := by
  have hlow := R.low
  have hsl := are_size R.are
  obtain ⟨o, ho, hex, hd⟩ := R.at_
  unfold setAddHashed
  refine wpAny_holding ?_
  rw [show (100000 : Nat) = 99999 + 1 from rfl, setAddHashedIn_succ]
  refine wpAny_bind (wpAny_setState_of ho hd R.fit ?_)
  dsimp only
  refine wp_if_neg (by simp [byScan, Value.scannable]) ?_
  try refine wpAny_bind (wpAny_pure ?_)
  refine wpAny_bind (sought SK R hx hu (fun hm => ?_) fun N hm W => ?_)
  · exact wpAny_pure (hQ false s.heap L es ep t (Heap.SameBut.refl a s.heap) R (fun _ => rfl) fun z => absurd hm z)
  · dsimp only
    refine wpAny_bind (wpAny_setState_of ho hd R.fit ?_)
    dsimp only
    obtain ⟨q1, q2, q3, q4, q5, q6, q7, q8, q9⟩ := R.tab.put W.out W.in_
    rw [mhs_len] at q9
    generalize t.put (way t.mask (kd.hash k) N) = pt at q1 q3 q4 q5 q6 q7 q8 q9 ⊢
    obtain ⟨t0, p⟩ := pt
    dsimp only at q1 q3 q4 q5 q6 q7 q8 q9 ⊢
    subst q1
    -- by value or not: the table is the same but for that
    have cut : ∀ {S : Bool → Sem Bool}, (∀ b, wpAny (model P w) A (S b) Q E s) → wpAny (model P w) A (if t0.plain = true then hashByValue 8 (.ref x) >>= S else pure true >>= S) Q E s := fun hS => by
      by_cases hpl : t0.plain = true
      · exact wp_if_pos hpl (wpAny_bind (SK.byVa hx hS))
      · exact wp_if_neg hpl (wpAny_bind (wpAny_pure (hS true)))
    refine cut fun bv => ?_
    obtain ⟨t1, et⟩ : ∃ t1, t1 = (if bv = true then t0 else { t0 with plain := false }) := ⟨_, rfl⟩
    rw [← et]
    have et3 : TabOk t1 ((mhs kd L).take (SetTable.below t.place (way t.mask (kd.hash k) N)) ++ kd.hash k :: (mhs kd L).drop (SetTable.below t.place (way t.mask (kd.hash k) N))) := by
      cases bv
      · subst et; exact ⟨q3.ris, q3.dm, q3.sz, q3.mok, q3.bd, q3.reach⟩
      · subst et; exact q3
    have et4 : t1.mask = t.mask := by cases bv <;> subst et <;> exact q4
    have et5 : t1.led = t.led := by cases bv <;> subst et <;> exact q5
    have et9 : t1.fill = L.length + 1 := by cases bv <;> subst et <;> exact q9
    clear et q3 q4 q5 q6 q7 q8 q9
    have q3 := et3
    have q4 := et4
    have q5 := et5
    have q9 := et9
    clear et3 et4 et5 et9
    generalize SetTable.below t.place (way t.mask (kd.hash k) N) = p at q2 q3 ⊢
    have pm := mid_perm L p (x, k)
    have hin : (SetTable.insertAt es p (kd.hash k, Value.ref x)).toList = (L.take p ++ (x, k) :: L.drop p).map (mem1 kd) := by
      rw [SetTable.toList_insertAt, R.are, List.map_append, List.map_cons, List.map_take, List.map_drop]; rfl
    have hhs : mhs kd (L.take p ++ (x, k) :: L.drop p) = (mhs kd L).take p ++ kd.hash k :: (mhs kd L).drop p := by
      unfold mhs
      rw [List.map_append, List.map_cons, List.map_take, List.map_drop]
    rw [← hhs] at q3
    have nd1 : ((L.take p ++ (x, k) :: L.drop p).map (·.2)).Nodup := (pm.map (·.2)).nodup_iff.mpr (by rw [List.map_cons]; exact List.nodup_cons.mpr ⟨hm, R.one⟩)
    generalize SetTable.insertAt es p (kd.hash k, Value.ref x) = es1 at hin ⊢
    generalize L.take p ++ (x, k) :: L.drop p = L1 at pm q3 nd1 hin
    have hlen : L1.length = L.length + 1 := pm.length_eq
    have hes : es1.size = L.length + 1 := (are_size hin).trans hlen
    refine wpAny_bind (wpAny_storeSet_of ho hd ?_ (by rw [hes, sizeLine_eq]; omega))
    have sb : Heap.SameBut a s.heap (s.heap.update a (Obj.putSet es1 t1)) := Heap.SameBut.update ..
    have ho1 := store_at (es' := es1) (t' := t1) ho hd
    generalize s.heap.update a (Obj.putSet es1 t1) = h1 at sb ho1 ⊢
    have ks1 : ∀ p ∈ L1, kd.is h1 p.2 p.1 := fun p hp => by
      rcases List.mem_cons.mp (pm.mem_iff.mp hp) with rfl | hp
      · exact SK.but hx ho hd sb
      · exact SK.but (R.key p hp) ho hd sb
    have ld1 : w.params.followText "set-order" = true ∨ t1.led = true := q5 ▸ R.led
    by_cases hf : t1.tooFull = true
    · first
        | (refine wpAny_bind ?_; refine wp_if_pos (by simp [hf]) ?_)
        | (refine wp_if_pos (by simp [hf]) ?_; refine wpAny_bind ?_)
      have full : (L.length + 1) * 5 ≥ t1.mask * 3 := by
        have z := hf
        unfold SetTable.tooFull at z
        rwa [decide_eq_true_eq, q9] at z
      rw [hsl]
      have hsz1 : t1.place.size = es1.size := by
        have z := q3.sz
        rwa [mhs_len, hlen, ← hes] at z
      rw [q4] at full
      have two : (t.mask = 7 ∧ L.length = 4) ∨ (t.mask = 31 ∧ L.length = 18) := by
        rcases R.tab.mok with e | e | e <;> rw [e] at full hlow
        · exact .inl ⟨e, by omega⟩
        · exact .inr ⟨e, by omega⟩
        · omega
      have go : ∀ M, SetTable.sizeAbove (SetTable.grown (L.length + 1)) - 1 = M → MaskOk M → SetTable.sizeAbove (SetTable.grown (L.length + 1)) ≤ 128 → (L.length + 1) * 5 < M * 3 →
          wpAny (model P w) A (setRelay a (SetTable.grown (L.length + 1))) (fun _ s' => wpAny (model P w) A (pure true) Q E s') E { s with heap := h1 } := fun M g1 g2 g3 g4 =>
        laidAnew SK (s := { s with heap := h1 }) ho1 ⟨hex.1, hex.2.1, hex.2.2⟩ rfl hin hsz1 q3.dm (by rw [hes, q4]; rcases two with ⟨e, _⟩ | ⟨e, _⟩ <;> omega) nd1 ks1 ld1 (by rw [hlen]; exact hfew) g1 g2 g3 (by rw [hlen]; exact g4)
          fun h2 L2 es2 ep2 t2 sb2 R2 pm2 => wpAny_pure (hQ true h2 L2 es2 ep2 t2 (sb.trans sb2) R2 (fun z => absurd z hm) fun _ => pm2.trans pm)
      rcases two with ⟨_, e2⟩ | ⟨_, e2⟩
      · exact go 31 (by rw [e2, size_20]) (.inr (.inl rfl)) (by rw [e2, size_20]; decide) (by omega)
      · exact go 127 (by rw [e2, size_76]) (.inr (.inr rfl)) (by rw [e2, size_76]; decide) (by omega)
    · first
        | refine wp_if_neg (by simp [hf]) ?_
        | (refine wpAny_bind ?_; refine wp_if_neg (by simp [hf]) ?_; refine wpAny_pure ?_)
      have low1 : L1.length * 5 < t1.mask * 3 := by
        have z := hf
        unfold SetTable.tooFull at z
        rw [decide_eq_true_eq, q9] at z
        omega
      exact wpAny_pure (hQ true h1 L1 es1 (ep + 1) t1 sb ⟨⟨_, ho1, ⟨hex.1, hex.2.1, hex.2.2⟩, rfl⟩, hin, q3, nd1, ks1, ld1, low1, by rw [hlen]; exact hfew⟩ (fun z => absurd z hm) fun _ => pm)
/-! ### set(xs) -/
/-- what stands in the set of the first i -/
structure Took (ks : List (Addr × K)) (i : Nat) (L : List (Addr × K)) : Prop where
  from_ : ∀ p ∈ L, p ∈ ks.take i
  all_ : ∀ p ∈ ks.take i, p.2 ∈ L.map (·.2)
  most : L.length ≤ i
theorem Took.next {ks L L' : List (Addr × K)} {i : Nat} {x : Addr × K} (g : Took ks i L) (h : ks[i]? = some x) (h1 : x.2 ∈ L.map (·.2) → L' = L) (h2 : x.2 ∉ L.map (·.2) → L'.Perm (x :: L)) : Took ks (i + 1) L' := by
  have e : ks.take (i + 1) = ks.take i ++ [x] := by rw [List.take_succ, h]; rfl
  by_cases c : x.2 ∈ L.map (·.2)
  · rw [h1 c]
    refine ⟨fun p hp => ?_, fun p hp => ?_, Nat.le_succ_of_le g.most⟩
    · rw [e]; exact List.mem_append_left _ (g.from_ p hp)
    · rw [e] at hp
      rcases List.mem_append.mp hp with z | z
      · exact g.all_ p z
      · rw [List.mem_singleton.mp z]; exact c
  · have pm := h2 c
    refine ⟨fun p hp => ?_, fun p hp => ?_, by rw [pm.length_eq]; exact Nat.succ_le_succ g.most⟩
    · rw [e]
      rcases List.mem_cons.mp (pm.mem_iff.mp hp) with rfl | z
      · exact List.mem_append_right _ (List.mem_singleton.mpr rfl)
      · exact List.mem_append_left _ (g.from_ p z)
    · rw [(pm.map (·.2)).mem_iff, List.map_cons]
      rw [e] at hp
      rcases List.mem_append.mp hp with z | z
      · exact List.mem_cons_of_mem _ (g.all_ p z)
      · rw [List.mem_singleton.mp z]; exact List.mem_cons_self
theorem Members.kept {h h' : Heap} (R : Members kd h a L es ep t) (ha : ∀ o, h.get? a = some o → h'.get? a = some o) (hk : ∀ p ∈ L, kd.is h' p.2 p.1) : Members kd h' a L es ep t :=
  let ⟨o, ho, r⟩ := R.at_
  ⟨⟨o, ha o ho, r⟩, R.are, R.tab, R.one, hk, R.led, R.low, R.few⟩
theorem Members.bare {h : Heap} (ho : h.get? a = some { cls := .type "set", dict := none, data := .set #[] 0 (.fresh 0 0 (!w.params.followText "set-order")) }) : Members kd h a [] #[] 0 (.fresh 0 0 (!w.params.followText "set-order")) :=
  ⟨⟨_, ho, ⟨rfl, rfl, rfl⟩, rfl⟩, rfl, ⟨List.Pairwise.nil, rfl, rfl, .inl rfl, fun _ hx => (by cases hx), fun i _ _ hi => (by simp [mhs] at hi)⟩, List.nodup_nil, fun _ hp => (by cases hp),
    (by show _ ∨ (!w.params.followText "set-order") = true; cases w.params.followText "set-order" <;> simp), by show 0 * 5 < 7 * 3; decide, by show 0 < 64; decide⟩
/-- the loop that fills it -/
theorem filling (SK : SetKey kd) {I : Addr} {fp wr : List Addr} {G : Array GenState → Array GenState → Prop} {n : Nat} {Pv : Nat → Value → Prop} {St : Nat → Shared → Prop} {R : Result → Shared → Prop}
    (W : WalksS P w A.in1 I fp wr G n Pv St) (S : Addr) (hSf : S ∉ fp) (ks : List (Addr × K)) (hn : n = ks.length) (hfew : ks.length < 64) (hval : ∀ i v, Pv i v → ∃ p, ks[i]? = some p ∧ v = .ref p.1)
    (h0 : Heap) (hk : ∀ p ∈ ks, kd.is h0 p.2 p.1) (hS0 : h0.get? S = none) (hw0 : ∀ b ∈ wr, h0.get? b = none) (hu : kd.room A.in1) :
    ∀ (k i : Nat) (s : Shared), n - i = k → i ≤ n → St i s → (∀ b o, h0.get? b = some o → s.heap.get? b = some o) → (∃ L es ep t, Members kd s.heap S L es ep t ∧ Took ks i L) →
      (∀ s' L es ep t, Moved (S :: wr) G s s' → Members kd s'.heap S L es ep t → Took ks n L → (∀ b o, h0.get? b = some o → s'.heap.get? b = some o) → R (.ok (.ret .none)) s') →
      codeAny (model P w) A (.builtin "set.update.loop" ⟨[.ref S, .ref I], []⟩) R s := by
  have hSw : S ∉ wr := fun h => hSf (W.sub _ h)
  have mono : ∀ b ∈ wr, b ∈ S :: wr := fun b hb => List.mem_cons_of_mem _ hb
  have on : ∀ {s s' : Shared}, Moved wr G s s' → (∀ b o, h0.get? b = some o → s.heap.get? b = some o) → ∀ b o, h0.get? b = some o → s'.heap.get? b = some o := fun hm hkp b o e =>
    hm.heap b o (fun hb => by rw [hw0 b hb] at e; cases e) (hkp b o e)
  have put : ∀ {s s' : Shared} {i L es ep t}, Moved wr G s s' → Members kd s.heap S L es ep t → Took ks i L → (∀ b o, h0.get? b = some o → s'.heap.get? b = some o) → Members kd s'.heap S L es ep t := fun hm hS g kp =>
    hS.kept (fun o e => hm.heap S o hSw e) fun p hp => SK.grown (hk p (List.mem_of_mem_take (g.from_ p hp))) kp
  intro k
  induction k with
  | zero =>
    intro i s hk' hi hst hkp ⟨L, es, ep, t, hS, g⟩ hR
    obtain rfl : i = n := by omega
    refine codeAny_builtin F.entry_set_update_loop ?_
    rw [Around.under_plainId F.plain_set_update_loop _]
    show wpAny _ A.in1 (pyNext (.ref I) >>= _) _ _ s
    refine wpAny_bind (W.done s _ _ hst fun s' hm => ?_)
    have kp' := on hm hkp
    show wpAny _ A.in1 (ret Value.none) _ _ s'
    exact wpAny_pure (hR s' L es ep t (hm.mono mono) (put hm hS g kp') g kp')
  | succ k ih =>
    intro i s hk' hi hst hkp ⟨L, es, ep, t, hS, g⟩ hR
    have hlt : i < n := by omega
    refine codeAny_builtin F.entry_set_update_loop ?_
    rw [Around.under_plainId F.plain_set_update_loop _]
    show wpAny _ A.in1 (pyNext (.ref I) >>= _) _ _ s
    refine wpAny_bind (W.item i s _ _ hlt hst fun v s' hP hst' hm => ?_)
    obtain ⟨p, hp, rfl⟩ := hval i v hP
    have kp' := on hm hkp
    have hS' := put hm hS g kp'
    have hx : kd.is s'.heap p.2 p.1 := SK.grown (hk p (List.mem_of_getElem? hp)) kp'
    show wpAny _ A.in1 (holding [Value.ref p.1] (setAdd S (.ref p.1)) >>= _) _ _ s'
    refine wpAny_bind (wpAny_holding ?_)
    unfold setAdd
    refine wpAny_holding (wpAny_bind (kd.pyHash hu hx ?_))
    refine added SK (s := { s' with toks := s'.toks + kd.draws p.2 }) hS' hx hu (by have := g.most; omega) fun b h' L' es' ep' t' hsb hS2 c1 c2 => ?_
    have kp2 : ∀ b o, h0.get? b = some o → h'.get? b = some o := fun b o e => (hsb.2 b (fun z => by rw [z, hS0] at e; cases e)).trans (kp' b o e)
    refine wpAny_pure ⟨plainId_quiet F.plain_set_update_loop _, ih (i + 1) _ (by omega) hlt (W.frame _ s' _ _ hst' (Nat.le_add_right _ _) fun b hb o e => ?_) kp2 ⟨L', es', ep', t', hS2, g.next hp c1 c2⟩ fun s'' L2 es2 ep2 t2 hm'' hS'' g'' kp'' => ?_⟩
    · rw [hsb.2 b (by rintro rfl; exact hSf hb)]; exact e
    · refine hR s'' L2 es2 ep2 t2 (Moved.trans W.gtrans ((hm.mono mono).then_heap (Nat.le_add_right _ _) fun b o hb e => ?_) hm'') hS'' g'' kp''
      rw [hsb.2 b (by rintro rfl; exact hb List.mem_cons_self)]; exact e
end
end
end Rp

/-! The call of set. -/
namespace Rp
open PySem PySem.Spec PyProof.Rows L2
section
variable {P : Program} {w : World} {K : Type} [DecidableEq K] {kd : HeapKind P w K} {A : Around} {E : Value → Shared → Prop} {s : Shared}
section
variable {a : Addr} {L : List (Addr × K)} {es : Array (Int × Value)} {ep : Nat} {t : SetTable}
/-- the bare set as it's first laid -/
abbrev bareSet (w : World) : Obj := { cls := .type "set", dict := none, data := .set #[] 0 (.fresh 0 0 (!w.params.followText "set-order")) }
set_option maxHeartbeats 8000000 in
theorem call_set (SK : SetKey kd) {l : Addr} {items : Array Value} (ks : List (Addr × K)) {Q : Value → Shared → Prop} (hh : A.handled = none) (hl : s.heap.IsList l items) (hit : items.toList = ks.map fun p => Value.ref p.1)
    (hk : ∀ p ∈ ks, kd.is s.heap p.2 p.1) (hfew : ks.length < 64) (hu : kd.room A.in1.in1.in1)
    (h : ∀ (h' : Heap) (tk : Nat) L es ep t, Members kd h' s.heap.objs.size L es ep t → Took ks ks.length L → (∀ b o, s.heap.get? b = some o → h'.get? b = some o) → Q (.ref s.heap.objs.size) { s with heap := h', toks := tk }) :
    wpAny (model P w) A (call (.type "set") [.ref l]) Q E s := by
  have hisz : items.size = ks.length := by rw [← Array.length_toList, hit, List.length_map]
  obtain ⟨c, tl, hmro⟩ := F.called_set.mro
  have hmade := F.called_set.made
  have hsub := F.called_set.sub
  refine wpAny_call (codeAny_of_tree ?_)
  show wpAny _ _ (callAny (.type "set") _) _ _ _
  refine wpAny_pure ⟨Code.quiet_builtin _ (by decide +kernel), codeAny_builtin F.entry_type_call ?_⟩
  rw [Around.under_plain (weight_type_call_type "set" [.ref l] []) rfl]
  have h1 := F.called_set.notType
  have h2 := F.called_set.canCreate
  have hct := F.typeCall_set_1 (.ref l)
  repeat (any_goals (first | assumption | wp_step))
  refine codeAny_mono (code_set_led1 (.ref l) (E := E) (Q₁ := fun obj s₁ => obj = .ref s.heap.objs.size ∧ s₁ = { s with heap := s.heap.push (bareSet w) }) ⟨rfl, rfl⟩) fun r s₁ hr => ?_
  cases r with
  | error e => exact hr
  | ok fl =>
    cases fl with
    | ret obj =>
      obtain ⟨rfl, rfl⟩ := hr
      have hS : (s.heap.push (bareSet w)).get? s.heap.objs.size = some (bareSet w) := Heap.get?_push_size _ rfl
      have hT : Shared.TypeIs { s with heap := s.heap.push (bareSet w) } (.ref s.heap.objs.size) "set" := ⟨_, hS, rfl⟩
      have hli := F.called_set.init.lookup
      have hbi := F.called_set.init.bind (.ref s.heap.objs.size)
      repeat (any_goals (first | assumption | wp_step))
      refine codeAny_mono (codeAny_call_builtin (R := wants (fun r s₂ => r = .none ∧ ∃ h' tk L es ep t, s₂ = { s with heap := h', toks := tk } ∧ Members kd h' s.heap.objs.size L es ep t ∧ Took ks ks.length L ∧
          (∀ b o, s.heap.get? b = some o → h'.get? b = some o)) E) F.called_set.init.plain F.entry_set_init (check_set_init_1 hT ?_)) fun r₂ s₂ hr₂ => ?_
      · obtain ⟨⟨ocls, odict, odata, oslots⟩, hol, hcl, nl, hdl⟩ := hl
        simp only at hcl hdl
        subst hcl; subst hdl
        have hol' : (s.heap.push (bareSet w)).get? l = some { cls := .type "list", dict := odict, data := .seq items nl, slots := oslots } := Heap.get?_push_of_some _ hol
        have hsls := F.sub_list_set
        have hslf := F.sub_list_frozenset
        have hne : (Value.type "list" == Value.type "dict") = false := by decide
        have hl1 : (s.heap.push (bareSet w)).IsList l items := ⟨_, hol', rfl, nl, rfl⟩
        unfold Builtin.«set.__init__» noKeywords Builtin.Frozenset.updateFrom
        generalize hPI : pyIter = PI
        wp_walk
        subst hPI
        refine wpAny_pyIter_list hl1 (wpAny_bind (wpAny_runValue ?_))
        have hlS : l < s.heap.objs.size := Heap.lt_size hol
        have hz1 : (s.heap.push (bareSet w)).objs.size = s.heap.objs.size + 1 := Heap.size_push ..
        have hh3 : A.in1.in1.in1.handled = none := by simp [hh]
        have hval : ∀ (i : Nat) (v : Value), items[i]? = some v → ∃ p, ks[i]? = some p ∧ v = .ref p.1 := fun i v hv => by
          rw [← Array.getElem?_toList, hit, List.getElem?_map] at hv
          cases hq : ks[i]? with
          | none => rw [hq] at hv; cases hv
          | some p => rw [hq] at hv; exact ⟨p, rfl, (Option.some.inj hv).symm⟩
        have fresh : ∀ b, s.heap.objs.size ≤ b → s.heap.get? b = none := fun b hb => by
          cases q : s.heap.get? b with
          | none => rfl
          | some o => exact absurd (Heap.lt_size q) (Nat.not_lt.mpr hb)
        refine filling SK ((Walks.list hh3 _ l (by rw [hz1]; exact Nat.ne_of_lt (Nat.lt_succ_of_lt hlS)) items).toS) s.heap.objs.size (by rw [hz1]; simp only [List.mem_cons, List.not_mem_nil, or_false, not_or]; exact ⟨Nat.ne_of_lt (Nat.lt_succ_self _), Nat.ne_of_gt hlS⟩)
          ks hisz hfew hval s.heap hk (fresh _ (Nat.le_refl _)) (fun b hb => fresh b (by rw [List.mem_singleton.mp hb, hz1]; omega)) hu (items.size - 0) 0 _ (by omega) (Nat.zero_le _)
          ⟨⟨_, Heap.get?_push_size _ rfl, rfl, rfl⟩, (hl1.push _)⟩ (fun b o e => Heap.get?_push_of_some _ (Heap.get?_push_of_some _ e)) ⟨[], #[], 0, _, Members.bare (Heap.get?_push_of_some _ hS), ⟨fun _ h => (by cases h), fun _ h => (by simp at h), Nat.le_refl _⟩⟩ ?_
        intro s' L es ep t hm hS' g' hkp
        obtain ⟨h', g2, d', tk', os'⟩ := s'
        obtain rfl : g2 = s.gens := hm.gens
        obtain rfl : d' = s.drawn := hm.drawn
        obtain rfl : os' = s.os := hm.os
        show wpAny _ _ _ _ _ _
        refine wpAny_pure ?_
        show wpAny _ _ (ret Value.none) _ _ _
        exact wpAny_pure ⟨rfl, h', tk', L, es, ep, t, rfl, hS', hisz ▸ g', hkp⟩
      · cases r₂ with
        | error e => exact hr₂
        | ok fl₂ =>
          cases fl₂ with
          | ret r =>
            obtain ⟨rfl, h', tk, L, es, ep, t, rfl, hS', g', hk'⟩ := hr₂
            repeat (any_goals (first | assumption | wp_step))
            exact h _ _ _ _ _ _ hS' g' hk'
          | _ => exact hr₂.elim
    | _ => exact hr.elim
end
end
end Rp

/-! Sets of tuples of texts; sorted of lists of data and of such sets. -/
namespace Rp
open PySem PySem.Spec PyProof.Rows L2 SrtO
section
variable {P : Program} {w : World} {A : Around} {E : Value → Shared → Prop} {s : Shared}
abbrev TxK (P : Program) (w : World) : HeapKind P w (List Str) := tupleKind (strKind P w)
theorem items_txt {k : List Str} {vs : List Value} (h : ItemsAre (strKind P w) k vs) : ∀ v ∈ vs, ∃ x t, v = Value.str x t := by
  induction h with
  | nil => exact fun v hv => nomatch hv
  | @cons k0 u ks us h1 _ ih =>
    intro v hv
    rcases List.mem_cons.mp hv with rfl | hv
    · obtain ⟨t, e⟩ := Value.isStrOf_shape h1
      exact ⟨k0, t, e⟩
    · exact ih v hv
/-- a walk over a tuple's items that finds nothing -/
theorem walkNone {β : Type} {items : Array Value} {f : Value → Option β × Unit → Sem (ForInStep (Option β × Unit))} {Q : Option β × Unit → Shared → Prop} (hi : ∀ v ∈ items.toList, ∃ x t, v = Value.str x t)
    (hf : ∀ x t r, f (.str x t) r = pure (.yield (none, ()))) (h : Q (none, ()) s) : wpAny (model P w) A (forIn items (none, ()) f) Q E s := by
  rw [← Array.forIn_toList]
  refine wpAny_forIn_list _ (fun todo r z => r = (none, ()) ∧ z = s ∧ ∀ v ∈ todo, ∃ x t, v = Value.str x t) _ ?_ ?_ _ _ ⟨rfl, rfl, hi⟩
  · rintro v todo r z ⟨rfl, rfl, al⟩
    obtain ⟨x, t, rfl⟩ := al v List.mem_cons_self
    rw [hf]
    exact wpAny_pure ⟨rfl, rfl, fun u hu => al u (List.mem_cons_of_mem _ hu)⟩
  · rintro r z ⟨rfl, rfl, _⟩
    exact h
theorem txNoCl {k : List Str} {b : Addr} {Q : Bool → Shared → Prop} (hk : (TxK P w).is s.heap k b) (h : Q false s) : wpAny (model P w) A (ofAClassStatement 8 (.ref b)) Q E s := by
  have hT := IsTupleKey.typeIs hk
  obtain ⟨o, items, n, ho, _, hd, hi⟩ := hk
  unfold ofAClassStatement
  refine wpAny_bind (wpAny_typeOf hT ?_)
  dsimp only
  have e : (("tuple" : String) == "tuple") = true := by decide
  simp only [e, if_true, Bool.not_true, Bool.false_eq_true, if_false]
  try refine wpAny_bind (wpAny_pure ?_)
  try simp only [Bool.not_true, Bool.false_eq_true, if_false]
  show wpAny _ _ (seqItems? (.ref b) >>= _) _ _ s
  refine wpAny_bind (wpAny_seqItems ho hd ?_)
  dsimp only
  refine wpAny_bind ?_
  show wpAny _ _ (forIn items _ _) _ _ s
  refine walkNone (items_txt hi) (fun x t r => ?_) (wpAny_pure h)
  rfl
theorem txByVa {k : List Str} {b : Addr} {Q : Bool → Shared → Prop} (hk : (TxK P w).is s.heap k b) (h : ∀ b, Q b s) : wpAny (model P w) A (hashByValue 8 (.ref b)) Q E s := by
  have hT := IsTupleKey.typeIs hk
  obtain ⟨o, items, n, ho, _, hd, hi⟩ := hk
  unfold hashByValue
  refine wpAny_bind (wpAny_specialOf hT F.slot_tuple_hash.lookup ?_)
  show wpAny _ _ (seqItems? (.ref b) >>= _) _ _ s
  refine wpAny_bind (wpAny_seqItems ho hd (wpAny_bind ?_))
  show wpAny _ _ (forIn items _ _) _ _ s
  rw [← Array.forIn_toList]
  have al := items_txt hi
  generalize items.toList = its at al
  cases its with
  | nil => exact wpAny_pure (wpAny_pure (h true))
  | cons v vs =>
    obtain ⟨x, t, rfl⟩ := al v List.mem_cons_self
    exact wpAny_pure (wpAny_pure (h false))
theorem txSet : SetKey (TxK P w) where
  same := fun hk ⟨o, items, n, ho, hc, hd, hi⟩ => ⟨o, items, n, hk _ _ _ _ ho hd, hc, hd, hi⟩
  noCl := txNoCl
  byVa := txByVa
end
/-! ### sorted of data -/
section
variable {P : Program} {w : World} {A : Around} {E : Value → Shared → Prop} {s : Shared}
abbrev srtD (ps : List (V × PyData)) : List (V × PyData) := ps.mergeSort (PySem.W.dataLe false fun p => p.2)
theorem vals_each {ps : List (V × PyData)} {us : List Value} (h : PySem.W.EachIs (fun u (p : V × PyData) => RelV p.1 u) us ps) : Vals (ps.map (·.1)) us := by
  induction h with
  | nil => exact .nil
  | cons r _ ih => exact .cons r ih
theorem each_vals : ∀ {ps : List (V × PyData)} {us : List Value}, Vals (ps.map (·.1)) us → PySem.W.EachIs (fun u (p : V × PyData) => RelV p.1 u) us ps
  | [], _, .nil => .nil
  | _ :: _, _, .cons r t => .cons r (each_vals t)
theorem srtD_short {ps : List (V × PyData)} (h : ps.length < 2) : srtD ps = ps := by
  rcases ps with _ | ⟨p, _ | ⟨q, r⟩⟩
  · simp [srtD]
  · simp [srtD]
  · simp at h; omega
theorem short_perm {α : Type} {l m : List α} (p : l.Perm m) (h : m.length < 2) : l = m := by
  rcases m with _ | ⟨x, _ | ⟨y, r⟩⟩
  · exact List.perm_nil.mp p
  · exact List.perm_singleton.mp p
  · simp at h; omega
theorem swoNo : Swo (fun _ _ : Value => false) := ⟨fun _ _ _ => rfl, fun _ _ _ _ _ => rfl⟩
/-- sorted(xs), a list of data -/
theorem sortedD {l : Addr} {ps : List (V × PyData)} {its : List Value} {Q : Value → Shared → Prop} (hl : s.heap.IsList l its.toArray) (rv : Vals (ps.map (·.1)) its) (er : PySem.W.EachIs (fun u (p : V × PyData) => ∃ as, Reads s.heap u p.2 as) its ps)
    (hal : PySem.W.AllAlike (ps.map (·.2))) (hk : ps.length < 2 ∨ PySem.W.Sortable (ps.map (·.2))) (hL : ps.length ≤ sizeLine) (hu : ∀ p ∈ ps, A.units + 2 + p.2.depth < cLine)
    (h : ∀ out : List Value, Vals ((srtD ps).map (·.1)) out → Q (.ref (s.heap.objs.size + 1)) { s with heap := sortedAll s.heap its out.toArray }) :
    wpAny (model P w) A (call (.builtin "sorted") [.ref l]) Q E s := by
  have hlen : its.length = ps.length := by rw [← rv.length, List.length_map]
  rcases hk with hk | hk
  · refine sorted_ord swoNo hl (by rw [hlen]; exact hL) (fun h2 => by omega) fun out _ st => h out ?_
    rw [srtD_short hk, short_perm st.perm (by omega)]
    exact rv
  · exact PySem.W.sorted_data (enc := fun p : V × PyData => p.2) hl (each_vals rv) er hal hk hL hu fun out _ e => h out (vals_each e)
def rSortD (K : PySem.W.Frag) : List V → Hp → VK → Prop := fun vs H Q => ∃ (a : Addr) (ps : List (V × PyData)), vs = [V.ref a] ∧ SqL K H a (ps.map (·.1)) ∧ (∀ p ∈ ps, Dp K H p.1 p.2) ∧ PySem.W.AllAlike (ps.map (·.2)) ∧ (ps.length < 2 ∨ PySem.W.Sortable (ps.map (·.2))) ∧
  (∀ p ∈ ps, p.2.depth ≤ 30) ∧ ∀ q, H q = none → Q (.ref q) (upd H q (.lst ((srtD ps).map (·.1))))
end
section
variable {X : Cx}
theorem each_reads {pins : List (Addr × Obj)} {σ : L2.St} {H : Hp} {s : Shared} (I : L2.Inv X pins σ H s) : ∀ {ps : List (V × PyData)} {us : List Value}, Vals (ps.map (·.1)) us → (∀ p ∈ ps, Dp X.K H p.1 p.2) → PySem.W.EachIs (fun u (p : V × PyData) => ∃ as, Reads s.heap u p.2 as) us ps
  | [], _, .nil, _ => .nil
  | p :: ps, _, .cons r t, h => .cons (Dp.reads I p.2 p.1 _ (h p List.mem_cons_self) r) (each_reads I t fun q hq => h q (List.mem_cons_of_mem _ hq))
theorem cr_sortD (hu : X.A.units + 64 < cLine) : CallR X (.builtin "sorted") (rSortD X.K) := by
  intro pins s σ H vs us Q I r h
  obtain ⟨a, ps, rfl, hs, hd, hal, hk, hdp, q⟩ := h
  obtain ⟨its, rv, hl, hz⟩ := I.list hs
  rw [Vals.ref1 r]
  have hlen : its.length = ps.length := by rw [← rv.length, List.length_map]
  refine sortedD hl.isList rv (each_reads I rv hd) hal hk (by simpa using hz) (fun p hp => by have := hdp p hp; omega) fun out ho => ?_
  obtain ⟨ep, he⟩ := PyProof.Rows.sortedAll_at s.heap its out.toArray
  have hz2 : ((srtD ps).map (·.1)).length ≤ sizeLine := by rw [List.length_map, List.length_mergeSort]; simpa using hz
  exact ⟨.ref _, upd H (s.heap.objs.size + 1) (.lst ((srtD ps).map (·.1))), I.laid (t' := s.toks) (fun _ _ => PyProof.Rows.sortedAll_old) (Nat.le_succ _) ⟨hz2, out, ep, ho, he⟩, rfl, q _ (I.hok.fresh (Nat.le_succ _))⟩
end
/-! ### sets of tuples of texts, and these sorted -/
/-- the set at a, its members' own tuples aside -/
def Members0 {P : Program} {w : World} (h : Heap) (a : Addr) (L : List (Addr × List Str)) : Prop :=
  ∃ (es : Array (Int × Value)) (ep : Nat) (t : SetTable), (∃ o, h.get? a = some o ∧ o.ExactSet ∧ o.data = .set es ep t) ∧ es.toList = L.map (mem1 (TxK P w)) ∧ TabOk t (mhs (TxK P w) L) ∧ (L.map (·.2)).Nodup ∧
    (w.params.followText "set-order" = true ∨ t.led = true) ∧ L.length * 5 < t.mask * 3 ∧ L.length < 64
def SetTxO (P : Program) (w : World) (a : Addr) (L : List (Addr × List Str)) : HO := .ext fun h => Members0 (P := P) (w := w) h a L
theorem Members.zero {P : Program} {w : World} {h : Heap} {a : Addr} {L : List (Addr × List Str)} {es : Array (Int × Value)} {ep : Nat} {t : SetTable} (R : Members (TxK P w) h a L es ep t) : Members0 (P := P) (w := w) h a L :=
  ⟨es, ep, t, R.at_, R.are, R.tab, R.one, R.led, R.low, R.few⟩
theorem Members0.full {P : Program} {w : World} {h : Heap} {a : Addr} {L : List (Addr × List Str)} (R : Members0 (P := P) (w := w) h a L) (ht : ∀ p ∈ L, (TxK P w).is h p.2 p.1) : ∃ es ep t, Members (TxK P w) h a L es ep t :=
  let ⟨es, ep, t, h1, h2, h3, h4, h6, h7, h8⟩ := R
  ⟨es, ep, t, h1, h2, h3, h4, ht, h6, h7, h8⟩
theorem setTxO_ok {P : Program} {w : World} {H : Hp} {h : Heap} {a : Addr} {L : List (Addr × List Str)} (R : Members0 (P := P) (w := w) h a L) : ObjOk P w H h a (SetTxO P w a L) := by
  have ⟨es, ep, t, ⟨o, ho, r⟩, q⟩ := R
  refine ⟨R, ⟨o, ho⟩, fun h1 h2 p k => ?_⟩
  have ⟨es', ep', t', ⟨o', ho', r'⟩, q'⟩ : Members0 (P := P) (w := w) h1 a L := p
  exact ⟨es', ep', t', ⟨o', k o' ho', r'⟩, q'⟩
theorem txItems {P : Program} {w : World} : ∀ {k : List Str} {us : List Value}, Vals (k.map V.str) us → ItemsAre (strKind P w) k us
  | [], _, .nil => .nil
  | n :: k, _, .cons r t => by
    obtain ⟨tk, rfl⟩ := r
    exact .cons (by simp [PySem.strKind, Value.isStrOf]) (txItems t)
theorem refs_eq {α : Type} : ∀ {ks : List (Addr × α)} {us : List Value}, Vals (ks.map fun p => V.ref p.1) us → us = ks.map fun p => Value.ref p.1
  | [], _, .nil => rfl
  | p :: ks, _, .cons r t => by
    cases r
    rw [refs_eq t]; rfl
theorem eq_refs {α : Type} : ∀ (ks : List (Addr × α)), Vals (ks.map fun p => V.ref p.1) (ks.map fun p => Value.ref p.1)
  | [] => .nil
  | p :: ks => .cons rfl (eq_refs ks)
/-- the tuple's texts as data -/
abbrev txD (k : List Str) : PyData := .tuple (k.map .str)
theorem dpAll_strs {K : PySem.W.Frag} {H : Hp} : ∀ k : List Str, DpAll K H (k.map V.str) (k.map .str)
  | [] => .nil
  | x :: k => .cons (.str x) (dpAll_strs k)
theorem dp_tx {K : PySem.W.Frag} {H : Hp} {a : Addr} {k : List Str} (h : SqT K H a (k.map V.str)) : Dp K H (.ref a) (txD k) := .tup h (dpAll_strs k)
theorem alike_strs : ∀ x y : List Str, PySem.W.alikeAll (x.map .str) (y.map .str) = true
  | [], _ => by simp [PySem.W.alikeAll]
  | _ :: _, [] => by simp [PySem.W.alikeAll]
  | a :: x, b :: y => by simp [PySem.W.alikeAll, PySem.W.alike, alike_strs x y]
theorem depth_strs : ∀ x : List Str, PyData.depthAll (x.map .str) = 0
  | [] => by simp [PyData.depthAll]
  | a :: x => by simp [PyData.depthAll, PyData.depth, depth_strs x]
section
variable {X : Cx}
theorem txIs {pins : List (Addr × Obj)} {σ : L2.St} {H : Hp} {s : Shared} {b : Addr} {k : List Str} (I : L2.Inv X pins σ H s) (h : SqT X.K H b (k.map V.str)) : (TxK X.prog X.w).is s.heap k b := by
  obtain ⟨its, r, ⟨o, ho, hc, n, hd⟩, _⟩ := I.tuple h
  exact ⟨o, its.toArray, n, ho, hc, hd, by simpa using txItems r⟩
/-- set(xs), xs a list of tuples of texts -/
def rSetTx (K : PySem.W.Frag) (P : Program) (w : World) : List V → Hp → VK → Prop := fun xs H Q => ∃ (l : Addr) (ks : List (Addr × List Str)), xs = [V.ref l] ∧ SqL K H l (ks.map fun p => V.ref p.1) ∧ (∀ p ∈ ks, SqT K H p.1 (p.2.map V.str)) ∧ ks.length < 64 ∧
  ∀ a L, H a = none → (∀ p ∈ L, p ∈ ks) → (∀ p ∈ ks, p.2 ∈ L.map (·.2)) → (L.map (·.2)).Nodup → Q (.ref a) (upd H a (SetTxO P w a L))
theorem cr_setTx (hc : X.calm = true) (hu : X.A.units + 64 < cLine) : CallR X (.type "set") (rSetTx X.K X.prog X.w) := by
  intro pins s σ H xs us Q I r h
  obtain ⟨l, ks, rfl, hl, hk, hf, q⟩ := h
  rw [Vals.ref1 r]
  obtain ⟨its, rv, pl, hz⟩ := I.list hl
  refine call_set txSet (P := X.prog) (w := X.w) ks (I.ok.hd hc) pl.isList (by simpa using refs_eq rv) (fun p hp => txIs I (hk p hp)) hf (show X.A.in1.in1.in1.units < cLine by simp only [Around.in1]; omega) fun h' tk L es ep t R g k => ?_
  refine ⟨.ref s.heap.objs.size, upd H s.heap.objs.size (SetTxO X.prog X.w s.heap.objs.size L), I.laid (t' := tk) k (Nat.le_refl _) (setTxO_ok R.zero), rfl, q _ L (I.hok.fresh (Nat.le_refl _)) (fun p hp => List.mem_of_mem_take (g.from_ p hp)) (fun p hp => ?_) R.one⟩
  exact g.all_ p (by rw [List.take_length]; exact hp)
theorem perm_unmap {α β : Type} {f : α → β} {vs ws : List β} (h : vs.Perm ws) : ∀ L : List α, ws = L.map f → ∃ M : List α, vs = M.map f ∧ M.Perm L := by
  induction h with
  | nil =>
    intro L e
    rcases L with _ | ⟨y, L⟩
    · exact ⟨[], rfl, .refl _⟩
    · cases e
  | cons x _ ih =>
    intro L e
    rcases L with _ | ⟨y, L⟩
    · cases e
    · injection e with e1 e2
      obtain ⟨M, m1, m2⟩ := ih L e2
      exact ⟨y :: M, by rw [m1, e1]; rfl, m2.cons y⟩
  | swap x y l =>
    intro L e
    rcases L with _ | ⟨u, _ | ⟨v, L⟩⟩
    · cases e
    · cases e
    · injection e with e1 e2
      injection e2 with e2 e3
      exact ⟨v :: u :: L, by rw [e1, e2, e3]; rfl, .swap u v L⟩
  | trans _ _ ih1 ih2 =>
    intro L e
    obtain ⟨M, m1, m2⟩ := ih2 L e
    obtain ⟨M', m3, m4⟩ := ih1 M m1
    exact ⟨M', m3, m4.trans m2⟩
abbrev srtT (L : List (Addr × List Str)) : List (Addr × List Str) := L.mergeSort (PySem.W.dataLe false fun p => txD p.2)
theorem reads_strs {P : Program} {w : World} (h : Heap) {k : List Str} {us : List Value} (r : ItemsAre (PySem.strKind P w) k us) : ReadsAll h us (k.map .str) [] := by
  induction r with
  | nil => exact ReadsAll.nil
  | cons h1 _ ih =>
    obtain ⟨t, rfl⟩ := Value.isStrOf_shape h1
    exact ReadsAll.cons (as := []) (Reads.str _ t) ih
theorem reads_tx {P : Program} {w : World} {h : Heap} {k : List Str} {b : Addr} (x : (TxK P w).is h k b) : Reads h (.ref b) (txD k) [] := by
  obtain ⟨o, items, n, ho, hc, hd, hi⟩ := x
  exact Reads.tuple ho hc hd (reads_strs h hi)
theorem srtT_short {L : List (Addr × List Str)} (h : L.length < 2) : srtT L = L := by
  rcases L with _ | ⟨p, _ | ⟨q, r⟩⟩
  · simp [srtT]
  · simp [srtT]
  · simp at h; omega
theorem each_refs : ∀ {L : List (Addr × List Str)} {us : List Value}, PySem.W.EachIs (fun u (p : Addr × List Str) => u = Value.ref p.1) us L → us = L.map fun p => Value.ref p.1
  | [], _, .nil => rfl
  | _ :: _, _, .cons r t => by rw [each_refs t, r]; rfl
theorem refs_each {R : Value → Addr × List Str → Prop} : ∀ (L : List (Addr × List Str)), (∀ p ∈ L, R (.ref p.1) p) → PySem.W.EachIs R (L.map fun p => Value.ref p.1) L
  | [], _ => .nil
  | p :: L, h => .cons (h p List.mem_cons_self) (refs_each L fun q hq => h q (List.mem_cons_of_mem _ hq))
section
variable {P : Program} {w : World} {A : Around} {E : Value → Shared → Prop} {s : Shared}
theorem sortedTx {a : Addr} {L : List (Addr × List Str)} {es : Array (Int × Value)} {ep : Nat} {t : SetTable} {Q : Value → Shared → Prop} (R : Members (TxK P w) s.heap a L es ep t) (hh : A.handled = none) (hu : A.units + 8 < cLine)
    (hk : L.length < 2 ∨ ∀ p ∈ L, p.2 ≠ [])
    (hQ : ∀ s' p (out : List Value) (c : Nat) (M : List (Addr × List Str)), (∀ b o, s.heap.get? b = some o → s'.heap.get? b = some o) → s'.gens = s.gens → s'.os = s.os → s.heap.objs.size ≤ p →
      s'.heap.get? p = some (seqObj "list" out.toArray c) → out = (srtT M).map (fun q => Value.ref q.1) → M.Perm L → Q (.ref p) s') :
    wpAny (model P w) A (call (.builtin "sorted") [.ref a]) Q E s := by
  obtain ⟨o, ho, hex, hd⟩ := R.at_
  have hsz := are_size R.are
  have hfew := R.few
  refine Calls.call_function_entry kind_sorted plain_sorted entry_sorted (args_sorted1 _) ?_
  unfold Builtin.«sorted»
  refine wpAny_bind (m := checkCount "sorted" 1 1 _) (wpAny_pure ?_)
  refine wpAny_bind (collect_set (A := A.in1) hh ⟨o, ho, hex.1, hd⟩ R.fit (by unfold scanBound; omega) R.tab.ris R.led fun s1 vs k1 hz g1 o1 pm => ?_)
  obtain ⟨M, rfl, pM⟩ := perm_unmap (f := fun p : Addr × List Str => Value.ref p.1) pm L (by rw [R.are, List.map_map]; rfl)
  have hM : M.length < 64 := by rw [pM.length_eq]; exact hfew
  refine wpAny_bind (wpAny_newList ?_ (by rw [List.length_map, sizeLine_eq]; omega))
  have hoL : (s1.heap.push (seqObj "list" (M.map fun p => Value.ref p.1).toArray 0)).get? s1.heap.objs.size = some (seqObj "list" (M.map fun p => Value.ref p.1).toArray 0) := Heap.get?_push_size _ rfl
  have tk : ∀ p ∈ M, (TxK P w).is (s1.heap.push (seqObj "list" (M.map fun p => Value.ref p.1).toArray 0)) p.2 p.1 := fun p hp => txSet.grown (R.key p (pM.mem_iff.mp hp)) fun b u e => Heap.get?_push_of_some _ (k1 b u e)
  have fin : ∀ out : List Value, out = (srtT M).map (fun q => Value.ref q.1) → Q (.ref s1.heap.objs.size) { s1 with heap := sortedHeap (s1.heap.push (seqObj "list" (M.map fun p => Value.ref p.1).toArray 0)) s1.heap.objs.size (M.map fun p => Value.ref p.1) out.toArray } := fun out e => by
    obtain ⟨c, hc⟩ := sortedHeap_at (vs := M.map fun p => Value.ref p.1) (out := out.toArray) hoL
    refine hQ _ s1.heap.objs.size out c M (fun b u q => ?_) g1 o1 hz hc e pM
    have q1 := k1 b u q
    have hlt := Heap.lt_size q1
    show (sortedHeap _ s1.heap.objs.size _ out.toArray).get? b = some u
    rw [sortedHeap_old (Nat.ne_of_lt hlt) (by rw [size_push']; exact Nat.lt_succ_of_lt hlt)]
    exact Heap.get?_push_of_some _ q1
  rcases hk with hk | hk
  · have hk' : (M.map fun p => Value.ref p.1).length < 2 := by rw [List.length_map, pM.length_eq]; exact hk
    refine wpAny_bind (wpAny_holding (wpAny_call_entry slot_list_sort (s := { s1 with heap := s1.heap.push (seqObj "list" (M.map fun p => Value.ref p.1).toArray 0) }) ⟨_, hoL, rfl⟩ entry_list_sort (list_sort_ord swoNo hoL (by rw [sizeLine_eq]; omega) (fun h2 => by omega) fun out _ st => ⟨_, rfl, ?_⟩) (args_list_sort _)))
    refine wpAny_pure ⟨_, rfl, fin out ?_⟩
    rw [srtT_short (by rw [pM.length_eq]; exact hk), short_perm st.perm hk']
  · refine wpAny_bind (wpAny_holding (PySem.W.list_sort_data (s := { s1 with heap := s1.heap.push (seqObj "list" (M.map fun p => Value.ref p.1).toArray 0) }) (R := fun u (p : Addr × List Str) => u = Value.ref p.1) (enc := fun p => txD p.2) hoL (refs_each M fun p _ => rfl)
      (refs_each M fun p hp => ⟨[], reads_tx (tk p hp), List.not_mem_nil⟩) (.of fun p q => ?_) (.inl fun d hd => ?_) (by rw [sizeLine_eq]; omega) (fun p _ => ?_) fun out _ e => ?_))
    · show PySem.W.alike (txD p.2) (txD q.2) = true
      simp only [PySem.W.alike]
      exact alike_strs _ _
    · obtain ⟨p, hp, rfl⟩ := List.mem_map.mp hd
      obtain ⟨x, r, e⟩ := List.exists_cons_of_ne_nil (hk p (pM.mem_iff.mp hp))
      exact ⟨.str x, r.map .str, by simp only [txD, e, List.map_cons]⟩
    · simp only [PyData.depth, depth_strs, Around.in1]; omega
    · exact wpAny_pure ⟨_, rfl, fin out (each_refs e)⟩
end
/-- sorted(set), the set of tuples of texts -/
def rSortTx (K : PySem.W.Frag) (P : Program) (w : World) : List V → Hp → VK → Prop := fun vs H Q => ∃ (a : Addr) (L : List (Addr × List Str)), vs = [V.ref a] ∧ H a = some (SetTxO P w a L) ∧ (∀ p ∈ L, SqT K H p.1 (p.2.map V.str)) ∧ (L.length < 2 ∨ ∀ p ∈ L, p.2 ≠ []) ∧
  ∀ (M : List (Addr × List Str)) (q : Addr), M.Perm L → M.length < 64 → H q = none → Q (.ref q) (upd H q (.lst ((srtT M).map fun p => V.ref p.1)))
theorem cr_sortTx (hc : X.calm = true) (hu : X.A.units + 64 < cLine) : CallR X (.builtin "sorted") (rSortTx X.K X.prog X.w) := by
  intro pins s σ H vs us Q I r h
  obtain ⟨a, L, rfl, ha, hk, hn, q⟩ := h
  have R0 : Members0 (P := X.prog) (w := X.w) s.heap a L := (I.hok a _ ha).1
  obtain ⟨es, ep, t, R⟩ := R0.full fun p hp => txIs I (hk p hp)
  rw [Vals.ref1 r]
  refine sortedTx R (I.ok.hd hc) (by omega) hn fun s' p out c M k g o hp hg hout pm => ?_
  have hfew : M.length < 64 := by rw [pm.length_eq]; exact R.few
  have hlen : ((srtT M).map fun q => V.ref q.1).length ≤ sizeLine := by rw [List.length_map, List.length_mergeSort, sizeLine_eq]; omega
  have hnp : H p = none := I.hok.fresh hp
  have hv : Vals ((srtT M).map fun q => V.ref q.1) out := by rw [hout]; exact eq_refs _
  have J : L2.Inv X pins σ (upd H p (.lst ((srtT M).map fun q => V.ref q.1))) { s with heap := s'.heap, gens := s'.gens, drawn := s'.drawn, toks := s'.toks } :=
    I.call (ch := []) (Un.laid k hp hnp) (I.hok.laid k hp ⟨hlen, out, c, hv, hg⟩) (by rw [g]; exact I.bare) (fun _ z => nomatch z)
  have e : s' = { s with heap := s'.heap, gens := s'.gens, drawn := s'.drawn, toks := s'.toks } := by
    cases s'; cases s; cases o; rfl
  rw [e]
  exact ⟨.ref p, _, J, rfl, q M p pm hfew hnp⟩
end
end Rp

/-! Data with lists for tuples: lots, fruits with lots, orchards. -/
namespace Rp
open PySem PySem.Spec PyProof.Rows L2
mutual
/-- tuples in the place of lists -/
def flat : PyData → PyData
  | .list ds => .tuple (flats ds)
  | .tuple ds => .tuple (flats ds)
  | d => d
def flats : List PyData → List PyData
  | [] => []
  | d :: ds => flat d :: flats ds
end
mutual
/-- lists in the place of tuples -/
def listy : PyData → PyData
  | .list ds => .list (listys ds)
  | .tuple ds => .list (listys ds)
  | d => d
def listys : List PyData → List PyData
  | [] => []
  | d :: ds => listy d :: listys ds
end
theorem flats_eq : ∀ ds, flats ds = ds.map flat
  | [] => by simp [flats]
  | d :: ds => by simp [flats, flats_eq ds]
theorem listys_eq : ∀ ds, listys ds = ds.map listy
  | [] => by simp [listys]
  | d :: ds => by simp [listys, listys_eq ds]
mutual
theorem flat_listy : ∀ d, flat (listy d) = flat d
  | .list ds => by simp [flat, listy, flats_listys ds]
  | .tuple ds => by simp [flat, listy, flats_listys ds]
  | .none => by simp [flat, listy]
  | .bool _ => by simp [flat, listy]
  | .int _ => by simp [flat, listy]
  | .str _ => by simp [flat, listy]
  | .dict _ => by simp [flat, listy]
theorem flats_listys : ∀ ds, flats (listys ds) = flats ds
  | [] => by simp [flats, listys]
  | d :: ds => by simp [flats, listys, flat_listy d, flats_listys ds]
end
/-- lots, and an orchard, as data -/
abbrev lotsD (ls : List (List Str)) : PyData := .tuple (ls.map txD)
abbrev fruitD (p : Str × List (List Str)) : PyData := .tuple [.str p.1, lotsD p.2]
abbrev grD (G : List (Str × List (List Str))) : PyData := .tuple (G.map fruitD)
theorem flat_tx (z : List Str) : flat (txD z) = txD z := by
  simp only [flat, flats_eq, List.map_map]; congr 1
theorem flat_lots (ls : List (List Str)) : flat (lotsD ls) = lotsD ls := by
  simp only [flat, flats_eq, List.map_map]; congr 1
  exact List.map_congr_left fun z _ => flat_tx z
theorem flat_fruit (p : Str × List (List Str)) : flat (fruitD p) = fruitD p := by
  have h := flat_lots p.2
  simp only [flat, flats] at h ⊢
  rw [h]
theorem flat_gr (G : List (Str × List (List Str))) : flat (grD G) = grD G := by
  simp only [flat, flats_eq, List.map_map]; congr 1
  exact List.map_congr_left fun p _ => flat_fruit p
section
variable {K : PySem.W.Frag} {H : Hp}
theorem seq_same {H H' : Hp} {a : Addr} {xs : List V} (e : Same H H') (h : SqL K H a xs ∨ SqT K H a xs) : SqL K H' a xs ∨ SqT K H' a xs := h.imp (fun h => e.seq h) (fun h => Same.seqT e h)
theorem take_at {α : Type} {l : List α} {i : Nat} {x : α} (h : l[i]? = some x) : l.take (i + 1) = l.take i ++ [x] := by rw [List.take_succ, h]; rfl
theorem seq_of {v : V} {d : PyData} {es : List PyData} (h : Dp K H v d) (e : flat d = .tuple es) : ∃ a xs ds, v = .ref a ∧ (SqL K H a xs ∨ SqT K H a xs) ∧ DpAll K H xs ds ∧ ds.map flat = es := by
  cases h with
  | lst hs ha => exact ⟨_, _, _, rfl, .inl hs, ha, by simpa [flat, flats_eq] using e⟩
  | tup hs ha => exact ⟨_, _, _, rfl, .inr hs, ha, by simpa [flat, flats_eq] using e⟩
  | _ => simp [flat] at e
theorem str_of {v : V} {d : PyData} {x : Str} (h : Dp K H v d) (e : flat d = .str x) : v = .str x := by
  cases h <;> simp [flat] at e
  rw [e]
theorem strs_all : ∀ {xs : List V} {ds : List PyData} {z : List Str}, DpAll K H xs ds → ds.map flat = z.map .str → xs = z.map V.str
  | xs, ds, [], h, e => by
    cases h with
    | nil => rfl
    | cons _ _ => cases e
  | xs, ds, x :: z, h, e => by
    cases h with
    | nil => cases e
    | cons h t =>
      injection e with a b
      rw [str_of h a, strs_all t b]; rfl
theorem lot_of {v : V} {d : PyData} {z : List Str} (h : Dp K H v d) (e : flat d = txD z) : ∃ a, v = .ref a ∧ (SqL K H a (z.map V.str) ∨ SqT K H a (z.map V.str)) := by
  obtain ⟨a, xs, ds, rfl, hs, ha, e2⟩ := seq_of h e
  rw [strs_all ha e2] at hs
  exact ⟨a, rfl, hs⟩
theorem DpAll.flatAt {xs : List V} {ds es : List PyData} {i : Nat} {v : V} (h : DpAll K H xs ds) (e : ds.map flat = es) (hv : xs[i]? = some v) : ∃ d, Dp K H v d ∧ es[i]? = some (flat d) := by
  obtain ⟨d, h1, h2⟩ := DpAll.at h hv
  exact ⟨d, h2, by rw [← e, List.getElem?_map, h1]; rfl⟩
theorem dp2 {xs : List V} {ds : List PyData} {e1 e2 : PyData} (h : DpAll K H xs ds) (e : ds.map flat = [e1, e2]) : ∃ x y dx dy, xs = [x, y] ∧ Dp K H x dx ∧ Dp K H y dy ∧ flat dx = e1 ∧ flat dy = e2 := by
  cases h with
  | nil => cases e
  | cons h1 t =>
    cases t with
    | nil => cases e
    | cons h2 t =>
      cases t with
      | nil =>
        injection e with a b
        injection b with b c
        exact ⟨_, _, _, _, rfl, h1, h2, a, b⟩
      | cons h3 t => cases e
/-- a fruit with its lots: a pair, list or tuple -/
theorem fruit_of {v : V} {d : PyData} {p : Str × List (List Str)} (h : Dp K H v d) (e : flat d = fruitD p) : ∃ a l dl, v = .ref a ∧ (SqL K H a [.str p.1, l] ∨ SqT K H a [.str p.1, l]) ∧ Dp K H l dl ∧ flat dl = lotsD p.2 := by
  obtain ⟨a, xs, ds, rfl, hs, ha, e2⟩ := seq_of h e
  obtain ⟨x, y, dx, dy, rfl, h1, h2, e3, e4⟩ := dp2 ha e2
  rw [str_of h1 e3] at hs
  exact ⟨a, y, dy, rfl, hs, h2, e4⟩
theorem dpAll_len {xs : List V} {ds es : List PyData} (h : DpAll K H xs ds) (e : ds.map flat = es) : xs.length = es.length := by
  rw [DpAll.len h, ← e, List.length_map]
theorem gSq2 {T : Addr} {x y : V} {i j : Nat} {σ : L2.St} {Q : L2.St → Hp → Prop} (h : SqL K H T [x, y] ∨ SqT K H T [x, y]) (q : Q ((σ.set i (some x)).set j (some y)) H) :
    gSq K 2 (gCons (gName i) (gCons (gName j) gNil)) (.ref T) σ H Q := by
  rcases h with h | h
  · exact .inr ⟨T, [x, y], rfl, h, rfl, x, [y], rfl, y, [], rfl, rfl, q⟩
  · exact .inl (gTup2 h q)
/-- all of the one in the other -/
def inAll (z o : List Str) : Bool := z.all fun x => decide (x ∈ o)
def inOne (ls : List (List Str)) (o : List Str) : Bool := ls.any fun z => inAll z o
def lookG (G : List (Str × List (List Str))) (f : Str) : Option (List (List Str)) := (G.find? fun p => decide (p.1 = f)).map (·.2)
def ripeG (G : List (Str × List (List Str))) (o : List Str) : List Str := (G.filter fun p => !decide (p.1 ∈ o) && inOne p.2 o).map (·.1)
theorem look_none {G : List (Str × List (List Str))} {f : Str} : lookG G f = none ↔ ∀ p ∈ G, p.1 ≠ f := by simp [lookG, List.find?_eq_none]
theorem look_hit {G : List (Str × List (List Str))} {f : Str} {i : Nat} {p : Str × List (List Str)} (h : lookG (G.take i) f = none) (e : G[i]? = some p) (hf : p.1 = f) : lookG G f = some p.2 := by
  have hg : G = G.take (i + 1) ++ G.drop (i + 1) := (List.take_append_drop _ _).symm
  have h0 : (G.take i).find? (fun p => decide (p.1 = f)) = none := by simpa [lookG] using h
  unfold lookG
  rw [hg, take_at e, List.find?_append, List.find?_append, h0]
  simp [hf]
theorem look_miss {G : List (Str × List (List Str))} {f : Str} {i : Nat} {p : Str × List (List Str)} (h : lookG (G.take i) f = none) (e : G[i]? = some p) (hf : p.1 ≠ f) : lookG (G.take (i + 1)) f = none := by
  rw [look_none] at h ⊢
  intro q hq
  rw [take_at e] at hq
  rcases List.mem_append.mp hq with z | z
  · exact h q z
  · rw [List.mem_singleton.mp z]; exact hf
theorem DpAll.snoc : ∀ {xs : List V} {ds : List PyData} {v : V} {d : PyData}, DpAll K H xs ds → Dp K H v d → DpAll K H (xs ++ [v]) (ds ++ [d])
  | _, _, _, _, .nil, h => .cons h .nil
  | _, _, _, _, .cons a t, h => .cons a (DpAll.snoc t h)
theorem mask_upd {D : Addr} {H : Hp} {o : HO} : mask D (upd H D o) = mask D H := by
  funext b
  unfold mask
  split
  · rfl
  · rename_i h; rw [upd_ne h]
theorem mask_into {D : Addr} {H H' : Hp} (nD : H D = none) (s : Same H H') : Same H (mask D H') := fun b o e => by
  rw [mask_ne (ne_of_none e nD)]; exact s b o e
theorem mask_new {D q : Addr} {H : Hp} {o : HO} (nq : H q = none) : Same (mask D H) (mask D (upd H q o)) := fun b u e => by
  by_cases h : b = D
  · rw [h] at e; simp [mask] at e
  · rw [mask_ne h] at e ⊢
    rw [upd_ne (ne_of_none e nq)]; exact e
theorem mask_on {D : Addr} {H H' : Hp} (s : Same H H') : Same (mask D H) (mask D H') := fun b u e => by
  by_cases h : b = D
  · rw [h] at e; simp [mask] at e
  · rw [mask_ne h] at e ⊢
    exact s b u e
theorem mask_to {D : Addr} {H H' : Hp} (s : Same H (mask D H')) : Same H H' := s.trans (mask_same D H')
theorem ripe_step {G : List (Str × List (List Str))} {o : List Str} {i : Nat} {p : Str × List (List Str)} (e : G[i]? = some p) :
    ripeG (G.take (i + 1)) o = ripeG (G.take i) o ++ (if !decide (p.1 ∈ o) && inOne p.2 o then [p.1] else []) := by
  unfold ripeG
  rw [take_at e, List.filter_append, List.map_append]
  congr 1
  by_cases h : (!decide (p.1 ∈ o) && inOne p.2 o) = true
  · simp only [List.filter_cons, h, if_true, List.filter_nil, List.map_cons, List.map_nil]
  · simp only [List.filter_cons, h, if_false, List.filter_nil, List.map_nil, Bool.false_eq_true]
theorem ripe_le {G : List (Str × List (List Str))} {o : List Str} : (ripeG G o).length ≤ G.length := by
  unfold ripeG
  rw [List.length_map]
  exact List.length_filter_le _ _
theorem inAll_take {z o : List Str} : (z.map fun x => decide (x ∈ o)).all id = inAll z o := by simp [inAll, List.all_map, Function.comp_def]
theorem inOne_map {ls : List (List Str)} {o : List Str} : (ls.map fun z => inAll z o).any id = inOne ls o := by simp [inOne, List.any_map, Function.comp_def]
end
end Rp

/-! Names share their stem: not both of two far ones are there. -/
namespace Rp
open PySem PySem.Spec PyProof.Rows L2
theorem nmTail_take (w : Nat) (tail : List Nat) (k : Nat) : ∃ j, nmTail w tail k = tail.take j := by
  unfold nmTail
  split
  · exact ⟨tail.length, by rw [List.take_length]⟩
  · split
    · split
      · exact ⟨0, by simp⟩
      · exact ⟨tail.length, by rw [List.take_length]⟩
    · exact ⟨_, rfl⟩
theorem nm_apart {sh st w i j : Nat} {head tail : List Nat} (h1 : nm sh st w head tail i = List.replicate 8 122) (h2 : nm sh st w head tail j = List.replicate 8 121) : False := by
  rcases head with _ | ⟨c, r⟩
  · obtain ⟨a, ea⟩ := nmTail_take w tail i
    obtain ⟨b, eb⟩ := nmTail_take w tail j
    unfold nm at h1 h2
    rw [ea] at h1
    rw [eb] at h2
    rcases tail with _ | ⟨d, l⟩
    · simp [List.replicate] at h1
    · rcases a with _ | a
      · simp [List.replicate] at h1
      · rcases b with _ | b
        · simp [List.replicate] at h2
        · simp [List.replicate] at h1 h2
          omega
  · unfold nm at h1 h2
    simp [List.replicate] at h1 h2
    omega
def z8 : Str := Str.ofString "zzzzzzzz"
def y8 : Str := Str.ofString "yyyyyyyy"
theorem z8_eq : z8 = tx (List.replicate 8 122) := by decide +kernel
theorem y8_eq : y8 = tx (List.replicate 8 121) := by decide +kernel
end Rp

/-! The least of some lots. -/
namespace Rp
open PySem PySem.Spec PyProof.Rows L2
def okT (z : List Str) : Prop := ∀ x ∈ z, PyData.strOk x = true
theorem lay_tx : ∀ {z : List Str}, okT z → PyData.canLayAll0 (z.map .str) = true
  | [], _ => by simp [PyData.canLayAll0]
  | x :: z, h => by
    have h1 := h x List.mem_cons_self
    have h2 := lay_tx (z := z) fun y hy => h y (List.mem_cons_of_mem _ hy)
    simp [PyData.canLayAll0, PyData.canLay0, h1, h2]
theorem shaped_tx {z : List Str} (h : okT z) : SeqAt.shaped (txD z) = true := by
  simp [SeqAt.shaped, PyData.canLay0, lay_tx h, PyData.depth, depth_strs]
theorem eqv_all_tx : ∀ y z : List Str, PyData.eqvAll (y.map .str) (z.map .str) = decide (y = z)
  | [], [] => by simp [PyData.eqvAll]
  | [], _ :: _ => by simp [PyData.eqvAll]
  | _ :: _, [] => by simp [PyData.eqvAll]
  | a :: y, b :: z => by
    have ih := eqv_all_tx y z
    simp [PyData.eqvAll, PyData.eqv, ih]
    rfl
theorem eqv_tx (y z : List Str) : PyData.eqv (txD y) (txD z) = decide (y = z) := by
  simp only [PyData.eqv]; exact eqv_all_tx y z
/-- something else of S lies within z -/
def hasIn (S : List (List Str)) (z : List Str) : Bool := S.any fun y => !decide (y = z) && inAll y z
theorem minNil {S : List (List Str)} {z : List Str} (h : [] ∈ S) (hz : hasIn S z = false) : z = [] := by
  rcases Classical.em (z = []) with c | c
  · exact c
  · exfalso
    have : hasIn S z = true := List.any_eq_true.mpr ⟨[], h, by simp [inAll, Ne.symm c]⟩
    rw [hz] at this; cases this
/-- what is new behind H -/
def news (H H' : Hp) : Hp := fun b => if (H b).isSome then none else H' b
theorem news_at {H H' : Hp} {b : Addr} (h : H b = none) : news H H' b = H' b := by simp [news, h]
theorem news_some {H H' : Hp} {b : Addr} {o : HO} (h : news H H' b = some o) : H b = none ∧ H' b = some o := by
  unfold news at h
  cases e : H b with
  | none => rw [e] at h; exact ⟨rfl, by simpa using h⟩
  | some u => rw [e] at h; simp at h
theorem news_in (H H' : Hp) : Same (news H H') H' := fun b o h => (news_some h).2
theorem news_on {H H1 H' : Hp} (s : Same H H1) : Same (news H1 H') (news H H') := fun b o h => by
  obtain ⟨h1, h2⟩ := news_some h
  have h0 : H b = none := by
    cases e : H b with
    | none => rfl
    | some u => rw [s b u e] at h1; cases h1
  rw [news_at h0]; exact h2
/-- the heap without some places -/
def hid (l : List Addr) (H : Hp) : Hp := fun b => if b ∈ l then none else H b
theorem hid_at {l : List Addr} {H : Hp} {b : Addr} (h : b ∉ l) : hid l H b = H b := if_neg h
theorem hid_some {l : List Addr} {H : Hp} {b : Addr} {o : HO} (h : hid l H b = some o) : b ∉ l ∧ H b = some o := by
  unfold hid at h
  split at h
  · cases h
  · exact ⟨by assumption, h⟩
theorem hid_in (l : List Addr) (H : Hp) : Same (hid l H) H := fun b o h => (hid_some h).2
theorem hid_upd {l : List Addr} {H : Hp} {b : Addr} {o : HO} (h : b ∈ l) : hid l (upd H b o) = hid l H := by
  funext c
  unfold hid
  split
  · rfl
  · rename_i hc
    rw [upd_ne]
    rintro rfl
    exact hc h
theorem hid_on {l : List Addr} {H H' : Hp} (h : ∀ b o, b ∉ l → H b = some o → H' b = some o) : Same (hid l H) (hid l H') := fun b o e => by
  obtain ⟨e1, e2⟩ := hid_some e
  rw [hid_at e1]; exact h b o e1 e2
theorem hid_less {l m : List Addr} {H : Hp} (h : ∀ b ∈ l, b ∈ m) : Same (hid m H) (hid l H) := fun b o e => by
  obtain ⟨e1, e2⟩ := hid_some e
  rw [hid_at fun z => e1 (h b z)]; exact e2
theorem hid_more {l : List Addr} {c : Addr} {H : Hp} (h : H c = none) : Same (hid l H) (hid (c :: l) H) := fun b o e => by
  obtain ⟨e1, e2⟩ := hid_some e
  rw [hid_at (by
    intro z
    rcases List.mem_cons.mp z with rfl | z
    · rw [e2] at h; cases h
    · exact e1 z)]; exact e2
theorem tenV {r : Int} (h0 : 0 ≤ r) (h1 : r < 10) : ∃ j : Nat, j ≤ 3 ∧ atI [V.int 1, V.int 1, V.int 2, V.int 3, V.int 1, V.int 2, V.int 1, V.int 1, V.int 2, V.int 0] r = some (.int j) := by
  have : r = 0 ∨ r = 1 ∨ r = 2 ∨ r = 3 ∨ r = 4 ∨ r = 5 ∨ r = 6 ∨ r = 7 ∨ r = 8 ∨ r = 9 := by omega
  rcases this with rfl | rfl | rfl | rfl | rfl | rfl | rfl | rfl | rfl | rfl
  · exact ⟨1, by decide, rfl⟩
  · exact ⟨1, by decide, rfl⟩
  · exact ⟨2, by decide, rfl⟩
  · exact ⟨3, by decide, rfl⟩
  · exact ⟨1, by decide, rfl⟩
  · exact ⟨2, by decide, rfl⟩
  · exact ⟨1, by decide, rfl⟩
  · exact ⟨1, by decide, rfl⟩
  · exact ⟨2, by decide, rfl⟩
  · exact ⟨0, by decide, rfl⟩
theorem TapeAt.ext {H H' : Hp} {t : Addr} {n : Nat} (h : TapeAt H t n) (e : H' t = H t) : TapeAt H' t n := by
  obtain ⟨a, b, c, h, r⟩ := h
  exact ⟨a, b, c, by rw [e]; exact h, r⟩
/-- fruits with lots as lists, in pairs -/
abbrev liD (z : List Str) : PyData := .list (z.map .str)
abbrev llD (ls : List (List Str)) : PyData := .list (ls.map liD)
abbrev prD (p : Str × List (List Str)) : PyData := .tuple [.str p.1, llD p.2]
theorem alike_lots : ∀ x y : List (List Str), PySem.W.alikeAll (x.map txD) (y.map txD) = true
  | [], _ => by simp [PySem.W.alikeAll]
  | _ :: _, [] => by simp [PySem.W.alikeAll]
  | a :: x, b :: y => by simp [PySem.W.alikeAll, PySem.W.alike, alike_strs a b, alike_lots x y]
theorem depth_lots : ∀ x : List (List Str), PyData.depthAll (x.map txD) ≤ 1
  | [] => by simp [PyData.depthAll]
  | a :: x => by
    have := depth_lots x
    simp only [List.map_cons, PyData.depthAll, PyData.depth, depth_strs]
    omega
theorem alike_fruits (G : List (Str × List (List Str))) : PySem.W.AllAlike (G.map fruitD) := .of fun p q => by simp [PySem.W.alike, PySem.W.alikeAll, alike_lots]
theorem depth_fruit (p : Str × List (List Str)) : (fruitD p).depth ≤ 30 := by
  have := depth_lots p.2
  simp only [PyData.depth, PyData.depthAll]
  omega
theorem zip_dp {K : PySem.W.Frag} {H : Hp} : ∀ {vs : List V} {ds : List PyData}, DpAll K H vs ds → (vs.zip ds).map (·.1) = vs ∧ (vs.zip ds).map (·.2) = ds ∧ ∀ p ∈ vs.zip ds, Dp K H p.1 p.2
  | [], ds, h => by cases h; exact ⟨rfl, rfl, fun _ h => (by cases h)⟩
  | v :: vs, ds, h => by
    cases h with
    | cons h1 t =>
      obtain ⟨a, b, c⟩ := zip_dp t
      refine ⟨by rw [List.zip_cons_cons, List.map_cons, a], by rw [List.zip_cons_cons, List.map_cons, b], fun p hp => ?_⟩
      rw [List.zip_cons_cons] at hp
      rcases List.mem_cons.mp hp with rfl | hp
      · exact h1
      · exact c p hp
theorem dp_zip {K : PySem.W.Frag} {H : Hp} : ∀ {Z : List (V × PyData)}, (∀ p ∈ Z, Dp K H p.1 p.2) → DpAll K H (Z.map (·.1)) (Z.map (·.2))
  | [], _ => .nil
  | p :: Z, h => .cons (h p List.mem_cons_self) (dp_zip fun q hq => h q (List.mem_cons_of_mem _ hq))
theorem name_ok {z : Str} (h : IsName z) : PyData.strOk z = true := by
  unfold PyData.strOk
  rw [← Array.all_toList, List.all_eq_true]
  intro c hc
  have := (h.2.2 c hc).2
  simp; omega
theorem Dp.apart {K : PySem.W.Frag} {H H' : Hp} {t : Addr} {v : V} {d : PyData} (ht : (H t).isSome = true) (h : Dp K (news H H') v d) : Dp K (hid [t] H') v d :=
  Dp.same (fun b o e => by
    obtain ⟨e1, e2⟩ := news_some e
    rw [hid_at (by
      intro z
      rw [List.mem_singleton.mp z] at e1
      rw [e1] at ht; cases ht)]
    exact e2) h
theorem tape_some {H : Hp} {t : Addr} {n : Nat} (h : TapeAt H t n) : (H t).isSome = true := by
  obtain ⟨_, _, _, h, _⟩ := h
  rw [h]; rfl
/-- an orchard as the law makes it -/
structure Grown (zs : List Str) (G : List (Str × List (List Str))) : Prop where
  nd : (G.map (·.1)).Nodup
  nm : ∀ p ∈ G, IsName p.1
  lots : ∀ p ∈ G, p.2.length < 64 ∧ ∀ z ∈ p.2, z.length ≤ 26 ∧ ∀ x ∈ z, IsName x
  len : G.length = zs.length
  apart : ¬ (z8 ∈ G.map (·.1) ∧ y8 ∈ G.map (·.1))
/-- a fruit with its lots, tuples alone -/
theorem pair_of {K : PySem.W.Frag} {H : Hp} {v : V} {p : Str × List (List Str)} (h : Dp K H v (fruitD p)) : ∃ c l, v = .ref c ∧ SqT K H c [.str p.1, l] ∧ Dp K H l (lotsD p.2) := by
  cases h with
  | @tup c ys _ sc dc =>
  cases dc with
  | @cons v1 _ _ _ c1 dc =>
  cases dc with
  | @cons v2 _ _ _ c2 dc =>
  cases dc
  cases c1
  exact ⟨c, v2, rfl, sc, c2⟩
theorem look_nd : ∀ {G : List (Str × List (List Str))} {p : Str × List (List Str)}, (G.map (·.1)).Nodup → p ∈ G → lookG G p.1 = some p.2
  | [], _, _, h => by cases h
  | g :: G, p, nd, h => by
    rw [List.map_cons] at nd
    have nd' := List.nodup_cons.mp nd
    unfold lookG
    rw [List.find?_cons]
    by_cases e : g.1 = p.1
    · rcases List.mem_cons.mp h with rfl | h
      · simp
      · exact absurd (List.mem_map.mpr ⟨p, h, e.symm⟩) nd'.1
    · rcases List.mem_cons.mp h with rfl | h
      · exact absurd rfl e
      · simp only [e, decide_false]
        exact look_nd nd'.2 h
theorem deep_tx (n : Nat) {z : List Str} (h : z.length ≤ 1000) : Deep (n + 1) (txD z) := ⟨by simpa using h, deep_strs n z⟩
theorem deep_li (n : Nat) {z : List Str} (h : z.length ≤ 1000) : Deep (n + 1) (.list (z.map .str)) := ⟨by simpa using h, deep_strs n z⟩
theorem deep_lots (n : Nat) {ls : List (List Str)} (h : ls.length ≤ 1000) (hz : ∀ z ∈ ls, z.length ≤ 1000) : Deep (n + 2) (lotsD ls) := ⟨by simpa using h, fun d hd => by
  obtain ⟨z, hz', rfl⟩ := List.mem_map.mp hd
  exact deep_tx n (hz z hz')⟩
theorem deep_fruit (n : Nat) {p : Str × List (List Str)} (h : p.2.length ≤ 1000) (hz : ∀ z ∈ p.2, z.length ≤ 1000) : Deep (n + 3) (fruitD p) := ⟨by simp, fun d hd => by
  rcases List.mem_cons.mp hd with rfl | hd
  · simp [Deep]
  · rw [List.mem_singleton.mp hd]; exact deep_lots n h hz⟩
theorem deep_gr (n : Nat) {G : List (Str × List (List Str))} (h : G.length ≤ 1000) (hz : ∀ p ∈ G, p.2.length ≤ 1000 ∧ ∀ z ∈ p.2, z.length ≤ 1000) : Deep (n + 4) (grD G) := ⟨by simpa using h, fun d hd => by
  obtain ⟨p, hp, rfl⟩ := List.mem_map.mp hd
  exact deep_fruit n (hz p hp).1 (hz p hp).2⟩
end Rp

/-! An orchard's repr: it can be shown, and is no longer than a text may be. -/
namespace Rp
open PySem PySem.Spec PyProof.Rows L2
section
variable {α : Type} {f : α → PyData}
theorem w_all {B : Nat} : ∀ l : List α, (∀ x ∈ l, (f x).weight ≤ B) → PyData.weightAll (l.map f) ≤ l.length * (B + 1)
  | [], _ => by simp [PyData.weightAll]
  | x :: l, h => by
    have h1 := h x List.mem_cons_self
    have h2 := w_all l fun y hy => h y (List.mem_cons_of_mem _ hy)
    simp only [List.map_cons, PyData.weightAll, List.length_cons, Nat.add_mul]
    omega
theorem sh_all : ∀ l : List α, (∀ x ∈ l, (f x).showable = true) → PyData.showableAll (l.map f) = true
  | [], _ => by simp [PyData.showableAll]
  | x :: l, h => by simp only [List.map_cons, PyData.showableAll, h x List.mem_cons_self, sh_all l fun y hy => h y (List.mem_cons_of_mem _ hy), Bool.and_self]
theorem hd_all : ∀ l : List α, (∀ x ∈ l, (f x).hasDict = false) → PyData.hasDictAll (l.map f) = false
  | [], _ => by simp [PyData.hasDictAll]
  | x :: l, h => by simp only [List.map_cons, PyData.hasDictAll, h x List.mem_cons_self, hd_all l fun y hy => h y (List.mem_cons_of_mem _ hy), Bool.or_self]
theorem is_all : ∀ l : List α, (∀ x ∈ l, (f x).intsShort 13 = true) → PyData.intsShortAll 13 (l.map f) = true
  | [], _ => by simp [PyData.intsShortAll]
  | x :: l, h => by simp only [List.map_cons, PyData.intsShortAll, h x List.mem_cons_self, is_all l fun y hy => h y (List.mem_cons_of_mem _ hy), Bool.and_self]
theorem cl_all : ∀ l : List α, (∀ x ∈ l, (f x).canLay0 = true) → PyData.canLayAll0 (l.map f) = true
  | [], _ => by simp [PyData.canLayAll0]
  | x :: l, h => by simp only [List.map_cons, PyData.canLayAll0, h x List.mem_cons_self, cl_all l fun y hy => h y (List.mem_cons_of_mem _ hy), Bool.and_self]
end
theorem sh_tx (z : List Str) : (txD z).showable = true := by
  simp only [PyData.showable]; exact sh_all z fun _ _ => by simp [PyData.showable]
theorem hd_tx (z : List Str) : (txD z).hasDict = false := by
  simp only [PyData.hasDict]; exact hd_all z fun _ _ => by simp [PyData.hasDict]
theorem is_tx (z : List Str) : (txD z).intsShort 13 = true := by
  simp only [PyData.intsShort]; exact is_all z fun _ _ => by simp [PyData.intsShort]
theorem show_gr (G : List (Str × List (List Str))) : (grD G).showable = true ∧ (grD G).hasDict = false ∧ (grD G).intsShort 13 = true := by
  refine ⟨?_, ?_, ?_⟩
  · simp only [PyData.showable]
    refine sh_all G fun p _ => ?_
    have := sh_all p.2 fun z _ => sh_tx z
    simp only [PyData.showable, PyData.showableAll] at this ⊢
    simp [this]
  · simp only [PyData.hasDict]
    refine hd_all G fun p _ => ?_
    have := hd_all p.2 fun z _ => hd_tx z
    simp only [PyData.hasDict, PyData.hasDictAll] at this ⊢
    simp [this]
  · simp only [PyData.intsShort]
    refine is_all G fun p _ => ?_
    have := is_all p.2 fun z _ => is_tx z
    simp only [PyData.intsShort, PyData.intsShortAll] at this ⊢
    simp [this]
theorem depth_gr : ∀ G : List (Str × List (List Str)), PyData.depthAll (G.map fruitD) ≤ 30
  | [] => by simp [PyData.depthAll]
  | p :: G => by
    have h1 := depth_gr G
    have h2 := depth_fruit p
    simp only [List.map_cons, PyData.depthAll]
    omega
theorem shown_gr {zs : List Str} {G : List (Str × List (List Str))} (h : Grown zs G) (hz : zs.length ≤ 24) : (grD G).shown.length ≤ sizeLine := by
  refine PyData.shown_fits_of_layable0 (B := 13) (by decide) (by decide) ?_ (show_gr G).2.2
  have cl : (grD G).canLay0 = true := by
    simp only [PyData.canLay0]
    refine cl_all G fun p hp => ?_
    have := cl_all (f := txD) p.2 fun z hzz => by
      simp only [PyData.canLay0]
      exact lay_tx fun x hx => name_ok (((h.lots p hp).2 z hzz).2 x hx)
    simp only [PyData.canLay0, PyData.canLayAll0, this, name_ok (h.nm p hp), Bool.and_self]
  have wt : (grD G).weight ≤ 24 * 16000 := by
    simp only [PyData.weight]
    refine Nat.le_trans (w_all (B := 15999) G fun p hp => ?_) (Nat.mul_le_mul_right _ (by rw [h.len]; exact hz))
    have l1 := (h.lots p hp).1
    have w1 := w_all (f := txD) (B := 234) p.2 fun z hzz => by
      simp only [PyData.weight]
      have l2 := ((h.lots p hp).2 z hzz).1
      have w2 := w_all (f := PyData.str) (B := 8) z fun x hx => by
        simp only [PyData.weight]
        exact (((h.lots p hp).2 z hzz).2 x hx).2.1
      omega
    have n1 : p.1.cps.size ≤ 8 := (h.nm p hp).2.1
    simp only [PyData.weight, PyData.weightAll]
    have : p.2.length * 235 ≤ 64 * 235 := Nat.mul_le_mul_right _ (by omega)
    omega
  have dp : (grD G).depth ≤ 64 := by
    have := depth_gr G
    simp only [PyData.depth]
    omega
  simp only [PyData.layable0, cl, Bool.and_eq_true, decide_eq_true_eq, true_and]
  exact ⟨dp, by omega⟩
/-- the first of the two far names that is none of these -/
theorem far_one {ns : List Str} (h : ¬ (z8 ∈ ns ∧ y8 ∈ ns)) : ∃ s r, [z8, y8].filter (fun x => !decide (x ∈ ns)) = s :: r ∧ s ∉ ns ∧ (s = z8 ∨ s = y8) := by
  by_cases h1 : z8 ∈ ns
  · have h2 : y8 ∉ ns := fun z => h ⟨h1, z⟩
    exact ⟨y8, [], by simp [List.filter_cons, h1, h2], h2, .inr rfl⟩
  · by_cases h2 : y8 ∈ ns
    · exact ⟨z8, [], by simp [List.filter_cons, h1, h2], h1, .inl rfl⟩
    · exact ⟨z8, [y8], by simp [List.filter_cons, h1, h2], h1, .inl rfl⟩
def odd4 (s : Str) : List Str := [s, Str.ofString "", Str.ofString "A", Str.ofString "a b"]
theorem odd_none {zs : List Str} {G : List (Str × List (List Str))} (h : Grown zs G) {s : Str} (hs : s ∉ G.map (·.1)) : ∀ o ∈ odd4 s, lookG G o = none := by
  intro o ho
  rw [look_none]
  intro p hp e
  have nm := h.nm p hp
  rw [e] at nm
  rcases List.mem_cons.mp ho with rfl | ho
  · exact hs (List.mem_map.mpr ⟨p, hp, e⟩)
  · rcases List.mem_cons.mp ho with rfl | ho
    · exact absurd nm.1 (by decide +kernel)
    · rcases List.mem_cons.mp ho with rfl | ho
      · have := nm.2.2 65 (by decide +kernel)
        omega
      · rw [List.mem_singleton.mp ho] at nm
        have := nm.2.2 32 (by decide +kernel)
        omega
theorem odd_ok {s : Str} (hs : s = z8 ∨ s = y8) : ∀ o ∈ odd4 s, PyData.strOk o = true := by
  intro o ho
  rcases List.mem_cons.mp ho with rfl | ho
  · rcases hs with rfl | rfl <;> decide +kernel
  · rcases List.mem_cons.mp ho with rfl | ho
    · decide +kernel
    · rcases List.mem_cons.mp ho with rfl | ho
      · decide +kernel
      · rw [List.mem_singleton.mp ho]; decide +kernel
theorem shaped_li {z : List Str} (h : okT z) : SeqAt.shaped (liD z) = true := by
  simp [SeqAt.shaped, PyData.canLay0, lay_tx h, PyData.depth, depth_strs]
theorem eqv_li (y z : List Str) : PyData.eqv (liD y) (liD z) = decide (y = z) := by
  simp only [PyData.eqv]; exact eqv_all_tx y z
end Rp

namespace Rp
open PySem PySem.Spec PyProof.Rows L2 TL RZ
def topS (i : Nat) : Stmt := PySem.Challenge.pw_ripepicks_k05_ripe_by_what_is_gone.main.body.getD i (.Pass ⟨0, 0, 0, 0⟩)
abbrev s_is_within : Stmt := topS 5
abbrev s_lots_of : Stmt := topS 7
abbrev s_is_ripe : Stmt := topS 8
abbrev s_has_one_within : Stmt := topS 9
abbrev s_ripe : Stmt := topS 10
abbrev s__law_tape : Stmt := topS 12
abbrev s__law_draw : Stmt := topS 13
abbrev s__law_folded : Stmt := topS 14
abbrev s__law_same : Stmt := topS 15
abbrev s__law_lists : Stmt := topS 16
abbrev s__law_names : Stmt := topS 17
abbrev s__law_part : Stmt := topS 18
abbrev s__law_in : Stmt := topS 19
abbrev s__law_least : Stmt := topS 20
abbrev s__law_pairs : Stmt := topS 21
abbrev s__law_made : Stmt := topS 22
abbrev s__law_orchard : Stmt := topS 23
abbrev s__law_ripe : Stmt := topS 24
abbrev s__law_refused : Stmt := topS 25
abbrev s__law_gone_right : Stmt := topS 26
abbrev s__law_six_right : Stmt := topS 27
abbrev s__law_right : Stmt := topS 28
abbrev s_law : Stmt := topS 29
def gKb (us ws : List Value) : List Value := match us with
  | [] => ws.reverse
  | _ => []
def gKbV (us ws : List V) : List V := match us with
  | [] => ws.reverse
  | _ => []
structure Txt (K : PySem.W.Frag) (mg : Str → Option Value) where
  f_is_within : Addr
  fd_is_within : FuncData
  F_is_within : Fun K "is_within" "is_within" s_is_within f_is_within fd_is_within
  b_is_within : Binds K fd_is_within ["one", "other"] []
  g_is_within : mg "is_within" = some (.ref f_is_within)
  f_lots_of : Addr
  fd_lots_of : FuncData
  F_lots_of : Fun K "lots_of" "lots_of" s_lots_of f_lots_of fd_lots_of
  b_lots_of : Binds K fd_lots_of ["orchard", "fruit"] []
  g_lots_of : mg "lots_of" = some (.ref f_lots_of)
  f_is_ripe : Addr
  fd_is_ripe : FuncData
  F_is_ripe : Fun K "is_ripe" "is_ripe" s_is_ripe f_is_ripe fd_is_ripe
  b_is_ripe : Binds K fd_is_ripe ["orchard", "fruit", "gone"] []
  g_is_ripe : mg "is_ripe" = some (.ref f_is_ripe)
  f_has_one_within : Addr
  fd_has_one_within : FuncData
  F_has_one_within : Fun K "has_one_within" "has_one_within" s_has_one_within f_has_one_within fd_has_one_within
  b_has_one_within : Binds K fd_has_one_within ["lots", "gone"] []
  g_has_one_within : mg "has_one_within" = some (.ref f_has_one_within)
  f_ripe : Addr
  fd_ripe : FuncData
  F_ripe : Fun K "ripe" "ripe" s_ripe f_ripe fd_ripe
  b_ripe : Binds K fd_ripe ["orchard", "gone"] []
  g_ripe : mg "ripe" = some (.ref f_ripe)
  f__law_tape : Addr
  fd__law_tape : FuncData
  F__law_tape : Fun K "_law_tape" "_law_tape" s__law_tape f__law_tape fd__law_tape
  b__law_tape : Binds K fd__law_tape ["_law_script", "_law_k"] []
  g__law_tape : mg "_law_tape" = some (.ref f__law_tape)
  f__law_draw : Addr
  fd__law_draw : FuncData
  F__law_draw : Fun K "_law_draw" "_law_draw" s__law_draw f__law_draw fd__law_draw
  b__law_draw : Binds K fd__law_draw ["_law_tape_here", "_law_many"] []
  g__law_draw : mg "_law_draw" = some (.ref f__law_draw)
  f__law_folded : Addr
  fd__law_folded : FuncData
  F__law_folded : Fun K "_law_folded" "_law_folded" s__law_folded f__law_folded fd__law_folded
  b__law_folded : Binds K fd__law_folded ["_law_script", "_law_many"] []
  g__law_folded : mg "_law_folded" = some (.ref f__law_folded)
  f__law_same : Addr
  fd__law_same : FuncData
  F__law_same : Fun K "_law_same" "_law_same" s__law_same f__law_same fd__law_same
  b__law_same : Binds K fd__law_same ["_law_found", "_law_due"] []
  g__law_same : mg "_law_same" = some (.ref f__law_same)
  f__law_lists : Addr
  fd__law_lists : FuncData
  F__law_lists : Fun K "_law_lists" "_law_lists" s__law_lists f__law_lists fd__law_lists
  b__law_lists : Binds K fd__law_lists ["_law_thing"] []
  g__law_lists : mg "_law_lists" = some (.ref f__law_lists)
  f__law_names : Addr
  fd__law_names : FuncData
  F__law_names : Fun K "_law_names" "_law_names" s__law_names f__law_names fd__law_names
  b__law_names : Binds K fd__law_names ["_law_tape_here", "_law_many"] []
  g__law_names : mg "_law_names" = some (.ref f__law_names)
  f__law_part : Addr
  fd__law_part : FuncData
  F__law_part : Fun K "_law_part" "_law_part" s__law_part f__law_part fd__law_part
  b__law_part : Binds K fd__law_part ["_law_tape_here", "_law_some", "_law_many"] []
  g__law_part : mg "_law_part" = some (.ref f__law_part)
  f__law_in : Addr
  fd__law_in : FuncData
  F__law_in : Fun K "_law_in" "_law_in" s__law_in f__law_in fd__law_in
  b__law_in : Binds K fd__law_in ["_law_one", "_law_other"] []
  g__law_in : mg "_law_in" = some (.ref f__law_in)
  f__law_least : Addr
  fd__law_least : FuncData
  F__law_least : Fun K "_law_least" "_law_least" s__law_least f__law_least fd__law_least
  b__law_least : Binds K fd__law_least ["_law_lots"] []
  g__law_least : mg "_law_least" = some (.ref f__law_least)
  f__law_pairs : Addr
  fd__law_pairs : FuncData
  F__law_pairs : Fun K "_law_pairs" "_law_pairs" s__law_pairs f__law_pairs fd__law_pairs
  b__law_pairs : Binds K fd__law_pairs ["_law_tape_here", "_law_names_here"] []
  g__law_pairs : mg "_law_pairs" = some (.ref f__law_pairs)
  f__law_made : Addr
  fd__law_made : FuncData
  F__law_made : Fun K "_law_made" "_law_made" s__law_made f__law_made fd__law_made
  b__law_made : Binds K fd__law_made ["_law_pairs_here"] []
  g__law_made : mg "_law_made" = some (.ref f__law_made)
  f__law_orchard : Addr
  fd__law_orchard : FuncData
  F__law_orchard : Fun K "_law_orchard" "_law_orchard" s__law_orchard f__law_orchard fd__law_orchard
  b__law_orchard : Binds K fd__law_orchard ["_law_tape_here", "_law_few", "_law_most"] []
  g__law_orchard : mg "_law_orchard" = some (.ref f__law_orchard)
  f__law_ripe : Addr
  fd__law_ripe : FuncData
  F__law_ripe : Fun K "_law_ripe" "_law_ripe" s__law_ripe f__law_ripe fd__law_ripe
  b__law_ripe : Binds K fd__law_ripe ["_law_grove", "_law_off"] []
  g__law_ripe : mg "_law_ripe" = some (.ref f__law_ripe)
  f__law_refused : Addr
  fd__law_refused : FuncData
  F__law_refused : Fun K "_law_refused" "_law_refused" s__law_refused f__law_refused fd__law_refused
  b__law_refused : Binds K fd__law_refused ["_law_way", "_law_grove", "_law_plum"] []
  g__law_refused : mg "_law_refused" = some (.ref f__law_refused)
  f__law_gone_right : Addr
  fd__law_gone_right : FuncData
  F__law_gone_right : Fun K "_law_gone_right" "_law_gone_right" s__law_gone_right f__law_gone_right fd__law_gone_right
  b__law_gone_right : Binds K fd__law_gone_right ["_law_grove", "_law_names_here", "_law_off"] []
  g__law_gone_right : mg "_law_gone_right" = some (.ref f__law_gone_right)
  f__law_six_right : Addr
  fd__law_six_right : FuncData
  F__law_six_right : Fun K "_law_six_right" "_law_six_right" s__law_six_right f__law_six_right fd__law_six_right
  b__law_six_right : Binds K fd__law_six_right ["_law_names_here"] []
  g__law_six_right : mg "_law_six_right" = some (.ref f__law_six_right)
  f__law_right : Addr
  fd__law_right : FuncData
  F__law_right : Fun K "_law_right" "_law_right" s__law_right f__law_right fd__law_right
  b__law_right : Binds K fd__law_right ["_law_tape_here"] []
  g__law_right : mg "_law_right" = some (.ref f__law_right)
  f_law : Addr
  fd_law : FuncData
  F_law : Fun K "law" "law" s_law f_law fd_law
  b_law : Binds K fd_law ["_law_script"] []
  g_law : mg "law" = some (.ref f_law)
  c_NoFruit : Addr
  i_NoFruit : Addr
  g_NoFruit : mg "NoFruit" = some (.ref c_NoFruit)
  w_NoFruit : PySem.WhatX.WhatTxt K mg "NoFruit" c_NoFruit i_NoFruit
  is_NoFruit : IsC K c_NoFruit
  c_NoRow : Addr
  i_NoRow : Addr
  g_NoRow : mg "NoRow" = some (.ref c_NoRow)
  w_NoRow : PySem.WhatX.WhatTxt K mg "NoRow" c_NoRow i_NoRow
  is_NoRow : IsC K c_NoRow
  c_Stays : Addr
  i_Stays : Addr
  g_Stays : mg "Stays" = some (.ref c_Stays)
  w_Stays : PySem.WhatX.WhatTxt K mg "Stays" c_Stays i_Stays
  is_Stays : IsC K c_Stays
  x_NoFruit_NoFruit : PySem.W.exmOne K (.ref c_NoFruit) (.ref c_NoFruit) = some true
  ki_NoFruit_NoFruit : PySem.W.kitOne K (.ref c_NoFruit) (.ref c_NoFruit) = some true
  x_NoFruit_NoRow : PySem.W.exmOne K (.ref c_NoFruit) (.ref c_NoRow) = some false
  ki_NoFruit_NoRow : PySem.W.kitOne K (.ref c_NoFruit) (.ref c_NoRow) = some false
  x_NoFruit_Stays : PySem.W.exmOne K (.ref c_NoFruit) (.ref c_Stays) = some false
  ki_NoFruit_Stays : PySem.W.kitOne K (.ref c_NoFruit) (.ref c_Stays) = some false
  kt_NoFruit_LookupError : PySem.W.kitOne K (.ref c_NoFruit) (.type "LookupError") = some true
  kb_ripe : KBinds K fd_ripe ["orchard", "gone"] ["gone", "orchard"] gKb gKbV
  kb_is_ripe : KBinds K fd_is_ripe ["orchard", "fruit", "gone"] ["gone", "fruit", "orchard"] gKb gKbV
  kb_lots_of : KBinds K fd_lots_of ["orchard", "fruit"] ["fruit", "orchard"] gKb gKbV
  m_len : mg "len" = none
  m_abs : mg "abs" = none
  m_int : mg "int" = none
  m_list : mg "list" = none
  m_tuple : mg "tuple" = none
  m_all : mg "all" = none
  m_any : mg "any" = none
  m_isinstance : mg "isinstance" = none
  m_max : mg "max" = none
  m_min : mg "min" = none
  m_range : mg "range" = none
  m_enumerate : mg "enumerate" = none
  m_zip : mg "zip" = none
  m_str : mg "str" = none
  m_bool : mg "bool" = none
  m_LookupError : mg "LookupError" = none
  m_repr : mg "repr" = none
  m_sorted : mg "sorted" = none
  m_set : mg "set" = none
theorem sc__law_tape : FnScope ["_law_script", "_law_k", "_law_cell"] ["_law_script", "_law_k"] (defScope s__law_tape) := ⟨rfl, rfl, rfl, by decide +kernel, rfl, by decide +kernel, by decide +kernel⟩
theorem sc__law_draw : FnScope ["_law_tape_here", "_law_many", "_law_once", "_law_twice", "_law_wide", "_law_found"] ["_law_tape_here", "_law_many"] (defScope s__law_draw) := ⟨rfl, rfl, rfl, by decide +kernel, rfl, by decide +kernel, by decide +kernel⟩
theorem sc__law_folded : FnScope ["_law_script", "_law_many", "_law_cells", "_law_k", "_law_cell"] ["_law_script", "_law_many"] (defScope s__law_folded) := ⟨rfl, rfl, rfl, by decide +kernel, rfl, by decide +kernel, by decide +kernel⟩
section
variable {P : Program} {w : World} {K : PySem.W.Frag} {mg : Str → Option Value} {base : Heap}
def sp__law_tape (K : PySem.W.Frag) : Sp := fun vs H Q _ => ∃ (a : Addr) (ns : List Int) (k : Nat), vs = [.ref a, .int k] ∧ SqL K H a (ns.map V.int) ∧ ns.length ≤ 1000 ∧ k ≤ 1000 ∧
  ∀ t, H t = none → ∀ H', TapeAt H' t 0 → (∀ b, b ≠ t → H' b = H b) → Q (.ref t) H'
theorem ok__law_tape (T : Txt K mg) : FnOk P w K mg base CX0 1 T.f__law_tape T.fd__law_tape ["_law_script", "_law_k"] (sp__law_tape K) := by
  refine T.F__law_tape.ok sc__law_tape (fun vs H Q E h => ?_) (fun cdv A outer s H vs Q E hr h => ?_)
  · obtain ⟨a, ns, k, rfl, _⟩ := h
    rfl
  · obtain ⟨a, ns, k, rfl, hS, hlen, hk, q⟩ := h
    refine ⟨_, (pss_cons (ps_set (i := 2) sc__law_tape.nd rfl (by first | exact Or.inl rfl | exact Or.inr rfl) (pe_ifExp (pt_cmpR op_lt (pv 1) (pe_callB call_len_seq (by rfl) T.m_len (by decide +kernel) (pa_cons (pv 0) pa_nil)) (nomark _)) (pe_ix ix_list (pv 0) (pv 1) (fun _ _ => rfl)) pe_int))
      (pss_one (ps_ret (pe_lst (pa_cons (pe_op op_mul (pe_callB call_abs (by rfl) T.m_abs (by decide +kernel) (pa_cons (pv 2) pa_nil)) (pe_callTy call_int1 (by rfl) T.m_int (by decide +kernel) (pa_cons (pe_cmpR op_ge (pe_callB call_abs (by rfl) T.m_abs (by decide +kernel) (pa_cons (pv 2) pa_nil)) (pe_op op_pow pe_int pe_int) (nomark _)) pa_nil))) (pa_cons (pe_op op_add (pe_op op_add (pe_op op_mod (pv 2) pe_int) (pe_op op_mul pe_int (pv 1))) pe_int) (pa_cons pe_int pa_nil))))))), ?_⟩
    simp [tSeq, tAsg, tIf, tIfS, tVar, tC, tOp, tUn, rI, rI0, rU, tCB, tCons, tNil, tLst, tTup, tRet, gName, gCons, gNil, gSub, rSetL, tTest, tB, tNot, tAnd, tOr, tAndV, tOrV, tNotV, tNext, tDrop, tCall, tCallK, gKbV, tSl, tNoPart, tPart, tPar, rEq, rNe, tLc_eq, tFor_eq, iRng1, L2.start, cxOf, Cx.nox]
    refine ⟨_, .inl hS, ?_⟩
    have c1 : CPow 10 18 := by unfold CPow; decide
    have c3 : CMul 39373 (k : Int) := by unfold CMul; left; decide
    have sz : 3 ≤ sizeLine := by rw [sizeLine_eq]; decide
    by_cases hlt : k < ns.length
    · rw [if_pos (by simpa using hlt)]
      have ge : (ns.map V.int)[k]? = some (.int ns[k]) := by rw [List.getElem?_map, List.getElem?_eq_getElem hlt]; rfl
      generalize ns[k] = x at ge
      refine ixL hS (atI_nat ge) ⟨x, rfl, x, rfl, c1, ?_, x, rfl, c3, sz, fun p hp => q p hp _ ⟨_, _, _, upd_same, ?_, ?_, ?_, by omega, by omega⟩ (fun b hb => upd_ne hb)⟩
      · unfold CMul; right; split <;> omega
      · split <;> split <;> omega
      · omega
      · omega
    · rw [if_neg (by simpa using hlt)]
      exact ⟨c1, by unfold CMul; left; decide, c3, sz, fun p hp => q p hp _ ⟨_, _, _, upd_same, by omega, by omega, by omega, by omega, by omega⟩ (fun b hb => upd_ne hb)⟩
def sp__law_draw (K : PySem.W.Frag) : Sp := fun vs H Q _ => ∃ (t : Addr) (m : Int) (n : Nat), vs = [.ref t, .int m] ∧ TapeAt H t n ∧ n ≤ 100000000 ∧ 0 < m ∧ m < 1000000 ∧
  ∀ (r : Int) (H' : Hp), 0 ≤ r → r < m → TapeAt H' t (n + 1) → (∀ b, b ≠ t → H' b = H b) → Q (.int r) H'
theorem ok__law_draw (T : Txt K mg) : FnOk P w K mg base CX0 1 T.f__law_draw T.fd__law_draw ["_law_tape_here", "_law_many"] (sp__law_draw K) := by
  refine T.F__law_draw.ok sc__law_draw (fun vs H Q E h => ?_) (fun cdv A outer s H vs Q E hr h => ?_)
  · obtain ⟨t, m, n, rfl, _⟩ := h
    rfl
  · obtain ⟨t, m, n, rfl, ⟨a, b, c, ht, ha, hb, hb2, hc, hcn⟩, hn, hm, hm2, q⟩ := h
    refine ⟨_, (pss_cons (ps_if (pt_cmpR op_gt (pe_ix ix_list (pv 0) pe_int (fun _ _ => rfl)) pe_int (nomark _)) (pss_cons (ps_set (i := 5) sc__law_draw.nd rfl (by first | exact Or.inl rfl | exact Or.inr rfl) (pe_op op_mod (pe_ix ix_list (pv 0) pe_int (fun _ _ => rfl)) (pv 1)))
      (pss_cons (ps_asg (pe_op op_fdivW (pe_ix ix_list (pv 0) pe_int (fun _ _ => rfl)) (pv 1)) (pg_sub (pv 0) pe_int set_list))
      (pss_one (ps_ret (pv 5))))) pss_nil)
      (pss_cons (ps_asg (pe_op op_add (pe_ix ix_list (pv 0) pe_int (fun _ _ => rfl)) pe_int) (pg_sub (pv 0) pe_int set_list))
      (pss_cons (ps_set (i := 2) sc__law_draw.nd rfl (by first | exact Or.inl rfl | exact Or.inr rfl) (pe_op op_mod (pe_op op_pow (pe_op op_add (pe_ix ix_list (pv 0) pe_int (fun _ _ => rfl)) (pe_op op_mul pe_int (pe_ix ix_list (pv 0) pe_int (fun _ _ => rfl)))) pe_int) pe_int))
      (pss_cons (ps_set (i := 3) sc__law_draw.nd rfl (by first | exact Or.inl rfl | exact Or.inr rfl) (pe_op op_mod (pe_op op_mul (pe_op op_add (pv 2) (pe_ix ix_list (pv 0) pe_int (fun _ _ => rfl))) (pe_op op_add (pe_op op_add (pe_op op_mod (pv 2) pe_int) pe_int) (pe_ix ix_list (pv 0) pe_int (fun _ _ => rfl)))) pe_int))
      (pss_cons (ps_set (i := 4) sc__law_draw.nd rfl (by first | exact Or.inl rfl | exact Or.inr rfl) (pe_op op_mod (pe_op op_add (pe_op op_add (pe_op op_fdivW (pe_ix ix_list (pv 0) pe_int (fun _ _ => rfl)) pe_int) (pe_op op_mul (pv 3) pe_int)) (pe_ix ix_list (pv 0) pe_int (fun _ _ => rfl))) pe_int))
      (pss_one (ps_ret (pe_op op_mod (pe_op op_fdivW (pe_op op_mod (pe_op op_add (pe_op op_add (pe_op op_mul (pv 3) pe_int) (pe_op op_mul (pv 4) pe_int)) (pv 2)) pe_int) pe_int) (pv 1))))))))), ?_⟩
    simp [tSeq, tAsg, tIf, tIfS, tVar, tC, tOp, tUn, rI, rI0, rU, tCB, tCons, tNil, tLst, tTup, tRet, gName, gCons, gNil, gSub, rSetL, tTest, tB, tNot, tAnd, tOr, tAndV, tOrV, tNotV, tNext, tDrop, tCall, tCallK, gKbV, tSl, tNoPart, tPart, tPar, rEq, rNe, tLc_eq, tFor_eq, iRng1, L2.start, cxOf, Cx.nox]
    have ix0 : ∀ x y z : Int, atI [V.int x, V.int y, V.int z] 0 = some (.int x) := fun _ _ _ => rfl
    have ix1 : ∀ x y z : Int, atI [V.int x, V.int y, V.int z] 1 = some (.int y) := fun _ _ _ => rfl
    have ix2 : ∀ x y z : Int, atI [V.int x, V.int y, V.int z] 2 = some (.int z) := fun _ _ _ => rfl
    have dv : ∀ i : Int, CDivW i m := fun i => wide_div hm (b := 30) (by omega) (by decide) (by decide)
    refine ixLH ht (ix0 _ _ _) ⟨a, rfl, ?_⟩
    by_cases h0 : 0 < a
    · rw [if_pos h0]
      refine ixLH ht (ix0 _ _ _) ⟨a, rfl, hm, ixLH ht (ix0 _ _ _) ⟨a, rfl, dv _, _, ht, 0, rfl, ?_⟩⟩
      refine q _ _ (Int.emod_nonneg _ (by omega)) (Int.emod_lt_of_pos _ hm) ⟨a / m, b, c, upd_same, Int.ediv_nonneg ha (by omega), hb, hb2, hc, by omega⟩ (fun b hb => upd_ne hb)
    · rw [if_neg h0]
      refine ixLH ht (ix2 _ _ _) ⟨c, rfl, _, ht, 2, rfl, ?_⟩
      have ht1 : (upd H t (.lst [V.int a, V.int b, V.int (c + 1)])) t = some (.lst [V.int a, V.int b, V.int (c + 1)]) := upd_same
      refine ixLH ht1 (ix1 _ _ _) (ixLH ht1 (ix2 _ _ _) ⟨_, rfl, by unfold CMul; left; decide, _, rfl, ⟨by decide, by decide, by omega⟩, ixLH ht1 (ix2 _ _ _) ⟨_, rfl, ixLH ht1 (ix2 _ _ _) ⟨_, rfl, ?_, ?_⟩⟩⟩)
      · have z := Int.emod_lt_of_pos ((b + 39373 * (c + 1)) ^ 5) (show (0 : Int) < 2147483647 by decide)
        have z0 := Int.emod_nonneg ((b + 39373 * (c + 1)) ^ 5) (show (2147483647 : Int) ≠ 0 by decide)
        unfold CMul; left; constructor <;> omega
      · have cm : ∀ (x y : Int), (-(2 ^ 64) < y ∧ y < 2 ^ 64) → CMul x y := fun x y h => .inr h
        refine ixLH ht1 (ix1 _ _ _) ⟨_, rfl, wide_div (by decide) (b := 40) (by decide) (by decide) (by decide), cm _ _ (by decide), ixLH ht1 (ix2 _ _ _) ⟨_, rfl, cm _ _ (by decide), cm _ _ (by decide), wide_div (by decide) (b := 30) (by decide) (by decide) (by decide), hm, ?_⟩⟩
        exact q _ _ (Int.emod_nonneg _ (by omega)) (Int.emod_lt_of_pos _ hm) ⟨a, b, c + 1, upd_same, ha, hb, hb2, by omega, by omega⟩ (fun b hb => upd_ne hb)
def sp__law_folded (K : PySem.W.Frag) : Sp := fun vs H Q _ => ∃ (a : Addr) (ns : List Int) (m : Nat), vs = [.ref a, .int m] ∧ SqL K H a (ns.map V.int) ∧ ns.length ≤ 63 ∧ 0 < m ∧ m ≤ 10 ∧
  ∀ (p : Addr) (H' : Hp) (cs : List Int), cs.length ≤ m → (ns ≠ [] → cs ≠ []) → H p = none → Same H H' → H' p = some (.lst (cs.map V.int)) → Q (.ref p) H'
def Pfold (H : Hp) (a l c : Addr) (m : Nat) (ns : List Int) (_ : Nat) (σ : L2.St) (H' : Hp) : Prop := ∃ (y3 y4 : Option V) (cs : List Int), σ = [some (.ref a), some (.int m), some (.ref l), y3, y4] ∧ Same H H' ∧ H' l = some (.lst (cs.map V.int)) ∧ cs.length = (ns.take m).length ∧ H' c = some (.lst (((ns.take 63).drop m).map V.int))
theorem ok__law_folded (T : Txt K mg) : FnOk P w K mg base CX0 1 T.f__law_folded T.fd__law_folded ["_law_script", "_law_many"] (sp__law_folded K) := by
  refine T.F__law_folded.ok sc__law_folded (fun vs H Q E h => ?_) (fun cdv A outer s H vs Q E hr h => ?_)
  · obtain ⟨t, m, n, rfl, _⟩ := h
    rfl
  · obtain ⟨a, ns, m, rfl, hS, hlen, hm, hm2, q⟩ := h
    refine ⟨_, (pss_cons (ps_set (i := 2) sc__law_folded.nd rfl (by first | exact Or.inl rfl | exact Or.inr rfl) (pe_callTy call_list_of (by rfl) T.m_list (by decide +kernel) (pa_cons (pe_slice sl_list (pv 0) po_none (po_some (pv 1))) pa_nil)))
      (pss_cons (ps_for PassesOwn.never rfl (pi_enum (by rfl) T.m_enumerate (pa_cons (pe_slice sl_list (pv 0) (po_some (pv 1)) (po_some pe_int)) pa_nil)) (pg_tup rfl (pgs_cons (pg_name (i := 3) sc__law_folded.nd rfl (by first | exact Or.inl rfl | exact Or.inr rfl)) (pgs_cons (pg_name (i := 4) sc__law_folded.nd rfl (by first | exact Or.inl rfl | exact Or.inr rfl)) pgs_nil)))
      (pss_one (ps_asg (pe_op op_add (pe_ix ix_list (pv 2) (pe_op op_mod (pv 3) (pv 1)) (fun _ _ => rfl)) (pe_op op_mul (pv 4) (pe_op op_add (pv 3) pe_int))) (pg_sub (pv 2) (pe_op op_mod (pv 3) (pv 1)) set_list))))
      (pss_one (ps_ret (pv 2))))), ?_⟩
    simp [tSeq, tAsg, tIf, tIfS, tVar, tC, tOp, tUn, rI, rI0, rU, tCB, tCons, tNil, tLst, tTup, tRet, gName, gCons, gNil, gSub, rSetL, tTest, tB, tNot, tAnd, tOr, tAndV, tOrV, tNotV, tNext, tDrop, tCall, tCallK, gKbV, tSl, tNoPart, tPart, tPar, rEq, rNe, tLc_eq, tFor_eq, iRng1, L2.start, cxOf, Cx.nox]
    refine ⟨a, _, rfl, hS, fun c1 n1 => ⟨c1, rfl, _, .inl (.inl (.inl upd_same)), fun l nl => ?_⟩⟩
    rw [cutV_to, ← List.map_take] at nl ⊢
    have s1 : Same H (upd H c1 (.lst ((ns.take m).map V.int))) := Same.new n1
    have s2 : Same (upd H c1 (.lst ((ns.take m).map V.int))) (upd (upd H c1 (.lst ((ns.take m).map V.int))) l (.lst ((ns.take m).map V.int))) := Same.new nl
    have nl0 : H l = none := s1.free nl
    generalize hHl : upd (upd H c1 (.lst ((ns.take m).map V.int))) l (.lst ((ns.take m).map V.int)) = Hl at s2
    have el : Hl l = some (.lst ((ns.take m).map V.int)) := by rw [← hHl]; exact upd_same
    have s3 := s1.trans s2
    refine ⟨.ref a, rfl, .int m, rfl, m, rfl, 63, rfl, a, _, rfl, s3.seq hS, fun c nc => ⟨c, _, rfl, .inl (.inl upd_same), ?_⟩⟩
    rw [show (63 : Int) = ((63 : Nat) : Int) from rfl, cutV_mid, ← List.map_take, ← List.map_drop]
    have s4 : Same Hl (upd Hl c (.lst (((ns.take 63).drop m).map V.int))) := Same.new nc
    have ncl : c ≠ l := fun e => by rw [e, el] at nc; cases nc
    refine for_it (walk_enum (xs := ((ns.take 63).drop m).map V.int)) (Pfold H a l c m ns)
      ⟨none, none, ns.take m, rfl, s3.trans s4, s4 _ _ el, rfl, upd_same⟩ (fun i σ H' _ h => ?_) (fun i x σ H1 H2 hi h hy => ?_) (fun σ H' h => ?_)
    · obtain ⟨_, _, _, _, _, _, _, h⟩ := h
      exact .inl (.inl h)
    · obtain ⟨y3, y4, cs, rfl, sm, e1, e2, e3⟩ := h
      obtain ⟨T1, x1, x2, rfl, nT, rfl, ex1, ex2⟩ := hy
      have ex1 : V.int i = x1 := Option.some.inj ex1
      subst ex1
      dsimp only at ex2
      rw [List.getElem?_map] at ex2
      obtain ⟨z, ez, rfl⟩ := Option.map_eq_some_iff.mp ex2
      have lcs : cs.length = m := by
        rw [List.length_map, List.length_drop, List.length_take] at hi
        rw [e2, List.length_take]
        omega
      refine gTup2 (.inl (.inl upd_same)) ?_
      simp [tSeq, tAsg, tIf, tIfS, tVar, tC, tOp, tUn, rI, rI0, rU, tCB, tCons, tNil, tLst, tTup, tRet, gName, gCons, gNil, gSub, rSetL, tTest, tB, tNot, tAnd, tOr, tAndV, tOrV, tNotV, tNext, tDrop, tCall, tCallK, gKbV, tSl, tNoPart, tPart, tPar, rEq, rNe, tLc_eq, tFor_eq, iRng1, L2.start, cxOf, Cx.nox]
      have lt : i % m < cs.length := by rw [lcs]; exact Nat.mod_lt _ hm
      have e1T : (upd H1 T1 (.tup [.int i, .int z])) l = some (.lst (cs.map V.int)) := by rw [upd_ne (ne_of_none e1 nT)]; exact e1
      refine ⟨by omega, ixLH e1T (atI_ok (k := i % m) (by omega) (by rw [List.length_map]; exact lt)) ⟨?_, cs[i % m], by rw [List.getElem_map], by omega, _, e1T, i % m, ixN_ok (by omega) (by rw [List.length_map]; exact lt), ?_⟩⟩
      · rw [List.length_map, List.length_drop, List.length_take] at hi
        unfold CMul; right; constructor <;> omega
      · refine ⟨_, _, cs.set (i % m) (cs[i % m] + z * (i + 2)), rfl, fun b o e => ?_, ?_, ?_, ?_⟩
        · rw [upd_ne (ne_of_none e nl0), upd_ne (ne_of_none (sm _ _ e) nT)]
          exact sm _ _ e
        · rw [upd_same, List.map_set]
        · rw [List.length_set, e2, List.length_take]
        · rw [upd_ne ncl, upd_ne (ne_of_none e3 nT)]
          exact e3
    · obtain ⟨y3, y4, cs, rfl, sm, e1, e2, e3⟩ := h
      refine ⟨.ref l, rfl, q l H' cs ?_ ?_ nl0 sm e1⟩
      · rw [e2, List.length_take]; omega
      · intro hne hc
        rw [hc, List.length_nil, List.length_take] at e2
        have : ns.length ≠ 0 := fun z => hne (List.length_eq_zero_iff.mp z)
        omega
end
theorem sc__law_names : FnScope ["_law_tape_here", "_law_many", "_law_stem", "_law_k", "_law_letters", "_law_shift", "_law_at", "_law_step", "_law_found", "_law_head", "_law_tail", "_law_way", "_law_sign"] ["_law_tape_here", "_law_many"] (defScope s__law_names) := ⟨rfl, rfl, rfl, by decide +kernel, rfl, by decide +kernel, by decide +kernel⟩
section
variable {P : Program} {w : World} {K : PySem.W.Frag} {mg : Str → Option Value} {base : Heap}
def sp__law_names (K : PySem.W.Frag) : Sp := fun vs H Q _ => ∃ (t : Addr) (m n : Nat), vs = [.ref t, .int m] ∧ TapeAt H t n ∧ n ≤ 90000000 ∧ m ≤ 26 ∧
  ∀ (zs : List Str) (p : Addr) (H' : Hp), zs.length = m → zs.Nodup → (∀ z ∈ zs, IsName z) → ¬ (z8 ∈ zs ∧ y8 ∈ zs) → H p = none → TapeAt H' t (n + 20) → Ext t H H' → H' p = some (.lst (zs.map V.str)) → Q (.ref p) H'
def Pstem (t D : Addr) (H1 : Hp) (n : Nat) (i : Nat) (H' : Hp) : Prop := ∃ cs : List Nat, cs.length = i ∧ (∀ c ∈ cs, 97 ≤ c ∧ c ≤ 122) ∧ H' D = some (.lst (cs.map fun c => V.str (tx [c]))) ∧ TapeAt H' t (n + i) ∧ Ext t H1 H'
def Pnames (t p : Addr) (H0 : Hp) (N m : Nat) (cs : List Nat) (sh at_ st w : Nat) (i : Nat) (σ : L2.St) (H' : Hp) : Prop := ∃ y3 y11 y12 : Option V,
  σ = [some (.ref t), some (.int m), some (.str (tx cs)), y3, some (.str (Str.ofString "abcdefghijklmnopqrstuvwxyz")), some (.int sh), some (.int at_), some (.int st), some (.ref p), some (.str (tx (cs.take at_))), some (.str (tx (cs.drop at_))), y11, y12] ∧
  H' p = some (.lst ((List.range i).map fun k => V.str (tx (nm sh st w (cs.take at_) (cs.drop at_) k)))) ∧ TapeAt H' t N ∧ Ext t H0 H'
theorem ok__law_names (T : Txt K mg) : FnOk P w K mg base CX0 2 T.f__law_names T.fd__law_names ["_law_tape_here", "_law_many"] (sp__law_names K) := by
  refine T.F__law_names.ok sc__law_names (fun vs H Q E h => ?_) (fun cdv A outer s H vs Q E hr h => ?_)
  · obtain ⟨t, m, n, rfl, _⟩ := h
    rfl
  · obtain ⟨t, m, n, rfl, hT, hn, hm, q⟩ := h
    refine ⟨_, (pss_cons (ps_asg (pe_tup (pa_cons pe_str (pa_cons (pe_call (ok__law_draw T) (hr.mono (by decide)) (by rfl) T.g__law_draw T.F__law_draw.kp T.b__law_draw .nil pass0 (pa_cons (pv 0) (pa_cons pe_int pa_nil))) pa_nil))) (pg_tup rfl (pgs_cons (pg_name (i := 4) sc__law_names.nd rfl (by first | exact Or.inl rfl | exact Or.inr rfl)) (pgs_cons (pg_name (i := 5) sc__law_names.nd rfl (by first | exact Or.inl rfl | exact Or.inr rfl)) pgs_nil))))
      (pss_cons (ps_set (i := 2) sc__law_names.nd rfl (by first | exact Or.inl rfl | exact Or.inr rfl) (pe_join pe_str (pe_lc (own := [("_law_k", 3)]) (g := (gName 3)) (tt := tYes) (te := (tOp rIxS (tVar 4) (tCall (sp__law_draw K) [] E0 (tCons (tVar 0) (tCons (tC (.int 26)) tNil))))) (by rfl) sc__law_names.nd (pi_range1 (by rfl) T.m_range (pa_cons (pe_call (ok__law_draw T) (hr.mono (by decide)) (by rfl) T.g__law_draw T.F__law_draw.kp T.b__law_draw .nil pass0 (pa_cons (pv 0) (pa_cons pe_int pa_nil))) pa_nil)) (blkOk_by (own := [("_law_k", 3)]) (N := ["_law_tape_here", "_law_many", "_law_stem", "_law_k", "_law_letters", "_law_shift", "_law_at", "_law_step", "_law_found", "_law_head", "_law_tail", "_law_way", "_law_sign"]) (sc := defScope s__law_names) (by decide +kernel)) (fun _ _ _ _ _ => (pg_name (i := 3) sc__law_names.nd rfl (by first | exact Or.inl rfl | exact Or.inr rfl))) (fun _ _ _ _ _ => pts_nil) (fun _ _ _ _ _ => (pe_ix ix_str (pv 4) (pe_call (ok__law_draw T) (hr.mono (by decide)) (by rfl) T.g__law_draw T.F__law_draw.kp T.b__law_draw .nil pass0 (pa_cons (pv 0) (pa_cons pe_int pa_nil))) (fun _ _ => rfl))))))
      (pss_cons (ps_par3 (by rfl) sc__law_names.nd (i := 6) (j := 7) (l := 8) rfl rfl rfl (by decide) (by decide) (by decide) rfl rfl rfl (pa_cons (pe_call (ok__law_draw T) (hr.mono (by decide)) (by rfl) T.g__law_draw T.F__law_draw.kp T.b__law_draw .nil pass0 (pa_cons (pv 0) (pa_cons (pe_op op_add (pe_callB call_len_str (by rfl) T.m_len (by decide +kernel) (pa_cons (pv 2) pa_nil)) pe_int) pa_nil))) (pa_cons (pe_ix ix_list (pe_lst (pa_cons pe_int (pa_cons pe_int (pa_cons pe_int pa_nil)))) (pe_call (ok__law_draw T) (hr.mono (by decide)) (by rfl) T.g__law_draw T.F__law_draw.kp T.b__law_draw .nil pass0 (pa_cons (pv 0) (pa_cons pe_int pa_nil))) (fun _ _ => rfl)) (pa_cons (pe_lst pa_nil) pa_nil))) (by rfl))
      (pss_cons (ps_par (by rfl) sc__law_names.nd (i := 9) (j := 10) rfl rfl (by decide) rfl rfl (pa_cons (pe_slice sl_str (pv 2) po_none (po_some (pv 6))) (pa_cons (pe_slice sl_str (pv 2) (po_some (pv 6)) po_none) pa_nil)) (by rfl))
      (pss_cons (ps_for PassesOwn.never rfl (pi_range1 (by rfl) T.m_range (pa_cons (pv 1) pa_nil)) (pg_name (i := 3) sc__law_names.nd rfl (by first | exact Or.inl rfl | exact Or.inr rfl))
      (pss_cons (ps_set (i := 11) sc__law_names.nd rfl (by first | exact Or.inl rfl | exact Or.inr rfl) (pe_op op_mul (pe_op op_mod (pe_op op_add (pe_op op_add (pv 5) (pv 6)) (pe_callB call_len_str (by rfl) T.m_len (by decide +kernel) (pa_cons (pv 2) pa_nil))) pe_int) (pe_callTy call_int1 (by rfl) T.m_int (by decide +kernel) (pa_cons (pe_cmpR op_ne (pv 10) pe_str (nomark _)) pa_nil))))
      (pss_cons (ps_set (i := 12) sc__law_names.nd rfl (by first | exact Or.inl rfl | exact Or.inr rfl) (pe_ix ix_str (pv 4) (pe_op op_mod (pe_op op_add (pv 5) (pe_op op_mul (pv 7) (pe_ix ix_list (pe_lst (pa_cons (pv 3) (pa_cons (pe_op op_fdivW (pv 3) pe_int) (pa_cons (pv 3) pa_nil)))) (pv 11) (fun _ _ => rfl)))) pe_int) (fun _ _ => rfl)))
      (pss_one (ps_expr (pe_bm PySem.F.plainAttrs_list PySem.F.slot_list_append PySem.F.type_list_append mt_append (pv 8) (pa_cons (pe_op op_add_str (pe_op op_add_str (pv 9) (pv 12)) (pe_ix ix_list (pe_lst (pa_cons (pv 10) (pa_cons (pe_op op_rep_str (pv 10) (pe_op op_mod (pv 3) pe_int)) (pa_cons (pe_slice sl_str (pv 10) po_none (po_some (pe_op op_mod (pv 3) (pe_op op_add (pe_callB call_len_str (by rfl) T.m_len (by decide +kernel) (pa_cons (pv 10) pa_nil)) pe_int)))) pa_nil)))) (pv 11) (fun _ _ => rfl))) pa_nil)))))))
      (pss_one (ps_ret (pv 8)))))))), ?_⟩
    simp [tSeq, tAsg, tIf, tIfS, tVar, tC, tOp, tUn, rI, rI0, rU, tCB, tCons, tNil, tLst, tTup, tRet, gName, gCons, gNil, gSub, rSetL, tTest, tB, tNot, tAnd, tOr, tAndV, tOrV, tNotV, tNext, tDrop, tCall, tCallK, gKbV, tSl, tNoPart, tPart, tPar, rEq, rNe, tLc_eq, tFor_eq, iRng1, L2.start, cxOf, Cx.nox]
    have s2 : 2 ≤ sizeLine := by rw [sizeLine_eq]; decide
    have szl : ∀ k : Nat, k ≤ 1000 → k ≤ sizeLine := fun k h => by rw [sizeLine_eq]; omega
    refine ⟨t, 26, n, rfl, hT, by omega, by decide, by decide, fun sh H1 sh0 sh1 T1 k1 => ⟨s2, fun p1 n1 => gTup2 (.inl (.inl upd_same)) ?_⟩⟩
    have ntp : ∀ {X : Hp} {q : Addr} {j : Nat}, TapeAt X t j → X q = none → q ≠ t := fun h e z => by
      obtain ⟨a, b, c, h, _⟩ := h
      rw [z, h] at e; cases e
    have x1 : Ext t H (upd H1 p1 (.tup [V.str (Str.ofString "abcdefghijklmnopqrstuvwxyz"), V.int sh])) := fun b o nb e => by
      have e' : H1 b = some o := by rw [k1 b nb]; exact e
      rw [upd_ne (ne_of_none e' n1)]; exact e'
    have T1' := T1.new (o := .tup [V.str (Str.ofString "abcdefghijklmnopqrstuvwxyz"), V.int sh]) n1
    generalize upd H1 p1 (.tup [V.str (Str.ofString "abcdefghijklmnopqrstuvwxyz"), V.int sh]) = H2 at x1 T1'
    simp [tSeq, tAsg, tIf, tIfS, tVar, tC, tOp, tUn, rI, rI0, rU, tCB, tCons, tNil, tLst, tTup, tRet, gName, gCons, gNil, gSub, rSetL, tTest, tB, tNot, tAnd, tOr, tAndV, tOrV, tNotV, tNext, tDrop, tCall, tCallK, gKbV, tSl, tNoPart, tPart, tPar, rEq, rNe, tLc_eq, tFor_eq, iRng1, L2.start, cxOf, Cx.nox, tM1, tLc_eq, iRng1]
    refine ⟨t, 8, n + 1, rfl, T1', by omega, by decide, by decide, fun ln H3 ln0 ln1 T3 k3 => ⟨ln, rfl, by omega, by omega, ?_⟩⟩
    have x3 : Ext t H H3 := x1.trans fun b o nb e => by rw [k3 b nb]; exact e
    refine lcK (walk_range (lo := 0) (n := ln.toNat)) (fun D => Pstem t D H3 (n + 2)) (fun D nD => ⟨[], rfl, (fun _ h => nomatch h), upd_same, T3.new nD, Ext.new nD⟩) (fun _ _ _ _ _ => trivial) (fun D i x Ha Hb nD hi hp hy => ?_) (fun D Ha nD hp => ?_)
    · have nDt : D ≠ t := ntp T3 nD
      obtain ⟨rfl, rfl⟩ := hy
      obtain ⟨cs, l1, l2, l3, l4, l5⟩ := hp
      simp [tSeq, tAsg, tIf, tIfS, tVar, tC, tOp, tUn, rI, rI0, rU, tCB, tCons, tNil, tLst, tTup, tRet, gName, gCons, gNil, gSub, rSetL, tTest, tB, tNot, tAnd, tOr, tAndV, tOrV, tNotV, tNext, tDrop, tCall, tCallK, gKbV, tSl, tNoPart, tPart, tPar, rEq, rNe, tLc_eq, tFor_eq, iRng1, L2.start, cxOf, Cx.nox, wipe, tYes]
      refine ⟨t, 26, n + 2 + i, rfl, l4, by omega, by decide, by decide, fun r Hc r0 r1 Tc kc => ?_⟩
      refine ⟨_, r, 97 + r.toNat, rfl, rfl, by rw [letters_len]; exact szl _ (by decide), letters_at r0 r1, ?_⟩
      refine ⟨_, by rw [kc D nDt]; exact l3, by rw [List.length_map, sizeLine_eq]; omega, cs ++ [97 + r.toNat], by simp [l1], ?_, ?_, ?_, ?_⟩
      · intro c hc
        rcases List.mem_append.mp hc with h | h
        · exact l2 c h
        · simp at h; omega
      · rw [upd_same, List.map_append]; rfl
      · obtain ⟨a, b, c, h, h'⟩ := Tc
        exact ⟨a, b, c, by rw [upd_ne nDt.symm]; exact h, h'⟩
      · intro b o nb e
        rw [upd_ne (ne_of_none e nD), kc b nb]
        exact l5 b o nb e
    · obtain ⟨cs, l1, l2, l3, l4, l5⟩ := hp
      refine ⟨D, rfl, cs.map (fun c => tx [c]), .inl (.inl (.inl (by rw [List.map_map]; exact l3))), ?_, ?_⟩
      · have : ∀ l : List Nat, ((l.map fun c => tx [c]).map (·.length)).sum = l.length := fun l => by
          induction l with
          | nil => rfl
          | cons c r ih => simp [tx_len] at ih ⊢; omega
        rw [this, List.length_map, tx_empty, tx_len]
        simp; omega
      · rw [join_signs]
        have xa : Ext t H Ha := x3.trans l5
        have lc : cs.length ≤ 7 := by omega
        clear l5 x3 x1 T1' T3 k3 k1 T1 hT
        simp [tSeq, tAsg, tIf, tIfS, tVar, tC, tOp, tUn, rI, rI0, rU, tCB, tCons, tNil, tLst, tTup, tRet, gName, gCons, gNil, gSub, rSetL, tTest, tB, tNot, tAnd, tOr, tAndV, tOrV, tNotV, tNext, tDrop, tCall, tCallK, gKbV, tSl, tNoPart, tPart, tPar, rEq, rNe, tLc_eq, tFor_eq, iRng1, L2.start, cxOf, Cx.nox, tPar3, tx_len]
        refine ⟨szl _ (by omega), t, cs.length + 1, n + 2 + ln.toNat, rfl, l4, by omega, by omega, by omega, fun at_ H4 at0 at1 T4 k4 => ⟨szl _ (by decide), fun p4 n4 => ?_⟩⟩
        have T4' := T4.new (o := .lst [V.int 1, V.int 7, V.int 25]) n4
        have p4t := ntp T4 n4
        refine ⟨t, 3, _, rfl, T4', by omega, by decide, by decide, fun sx H5 sx0 sx1 T5 k5 => ?_⟩
        have e5 : H5 p4 = some (.lst [V.int 1, V.int 7, V.int 25]) := by rw [k5 p4 p4t]; exact upd_same
        have x5 : Ext t H H5 := fun b o nb e => by
          have e1 := xa b o nb e
          rw [k5 b nb, upd_ne (fun z => by rw [z] at e1; rw [← k4 p4 p4t, n4] at e1; cases e1), k4 b nb]
          exact e1
        refine ixLH e5 (atI3 (w := sx.toNat) (by omega) (by omega)) (fun p np => ?_)
        have npt : p ≠ t := ntp T5 np
        obtain ⟨st, est, hst⟩ : ∃ st : Nat, (if sx.toNat = 0 then V.int 1 else if sx.toNat = 1 then V.int 7 else V.int 25) = V.int (st : Nat) ∧ (st = 1 ∨ st = 7 ∨ st = 25) := by
          split
          · exact ⟨1, rfl, .inl rfl⟩
          · split
            · exact ⟨7, rfl, .inr (.inl rfl)⟩
            · exact ⟨25, rfl, .inr (.inr rfl)⟩
        rw [est]
        obtain ⟨shN, rfl⟩ : ∃ k : Nat, sh = (k : Int) := ⟨sh.toNat, by omega⟩
        obtain ⟨a, rfl⟩ : ∃ k : Nat, at_ = (k : Int) := ⟨at_.toNat, by omega⟩
        have pn0 : H p = none := by
          cases e : H p with
          | none => rfl
          | some o => rw [x5 p o npt e] at np; cases np
        refine ⟨_, _, _, ⟨rfl, rfl, rfl⟩, a, rfl, ⟨_, rfl, by rw [tx_len]; exact szl _ (by omega), a, rfl, ⟨_, rfl, by rw [tx_len]; exact szl _ (by omega), _, _, ⟨rfl, rfl⟩, by omega, ?_⟩⟩⟩
        rw [cutS_to, cutS_from]
        generalize hw : (if cs.drop a = [] then 0 else (shN + a + cs.length) % 3) = w
        have hw3 : w < 3 := by rw [← hw]; split <;> omega
        have hwt : w ≠ 0 → cs.drop a ≠ [] := fun h0 z => h0 (by rw [← hw, if_pos z])
        refine frK walk_range (Pnames t p H (n + 20) m cs shN a st w) ⟨none, none, none, rfl, upd_same, ?_, ?_⟩ (fun _ _ _ _ _ => trivial) (fun i x σ Hc Hd hi hp hy => ?_) (fun σ Hc hp => ?_)
        · exact (T5.new np).mono (by omega)
        · exact x5.trans (Ext.new np)
        · obtain ⟨rfl, rfl⟩ := hy
          obtain ⟨y3, y11, y12, rfl, e1, e2, e3⟩ := hp
          simp [tSeq, tAsg, tIf, tIfS, tVar, tC, tOp, tUn, rI, rI0, rU, tCB, tCons, tNil, tLst, tTup, tRet, gName, gCons, gNil, gSub, rSetL, tTest, tB, tNot, tAnd, tOr, tAndV, tOrV, tNotV, tNext, tDrop, tCall, tCallK, gKbV, tSl, tNoPart, tPart, tPar, rEq, rNe, tLc_eq, tFor_eq, iRng1, L2.start, cxOf, Cx.nox]
          refine ⟨by rw [tx_len]; exact szl _ (by omega), rfl, ?_⟩
          have hd2 : CDivW (i : Int) 2 := wide_div (by decide) (b := 5) (by decide) (by decide) (by decide)
          have s3 : 3 ≤ sizeLine := szl _ (by decide)
          obtain ⟨wi, ewi, hor⟩ : ∃ wi : Int, wi = (w : Int) ∧ ((cs.drop a = [] ∧ wi = 0) ∨ (cs.drop a ≠ [] ∧ wi = ((shN : Int) + a + ((tx cs).length : Nat)) % 3)) := by
            by_cases hz : cs.drop a = []
            · exact ⟨0, by rw [← hw, if_pos hz]; rfl, .inl ⟨hz, rfl⟩⟩
            · exact ⟨_, by rw [← hw, if_neg hz, tx_len]; omega, .inr ⟨hz, rfl⟩⟩
          rcases hor with ⟨hz, ez⟩ | ⟨hz, ez⟩
          · refine .inl ⟨by rw [hz]; rfl, .inr (by decide), hd2, s3, ?_⟩
            intro p6 n6
            have np6 : p6 ≠ p := fun z => by rw [z, e1] at n6; cases n6
            have li := nmIdx_lt (w := w) (k := i) (by omega)
            refine ixLH upd_same (atI3 (w := w) (ez.symm.trans ewi) hw3) ⟨((nmIdx w i : Nat) : Int), idxV w i, .inl (by omega), _, _, _, rfl, rfl, by rw [letters_len]; exact szl _ (by decide), letters_at (Int.emod_nonneg _ (by decide)) (Int.emod_lt_of_pos _ (by decide)), ?_⟩
            have T6 := e2.new (o := .lst [V.int i, V.int ((i : Int) / 2), V.int i]) n6
            have e6 : (upd Hd p6 (.lst [V.int i, V.int ((i : Int) / 2), V.int i])) p = _ := (upd_ne np6.symm).trans e1
            have x6 : Ext t H (upd Hd p6 (.lst [V.int i, V.int ((i : Int) / 2), V.int i])) := e3.trans (Ext.new n6)
            generalize upd Hd p6 (.lst [V.int i, V.int ((i : Int) / 2), V.int i]) = H6 at T6 e6 x6
            simp [tSeq, tAsg, tIf, tIfS, tVar, tC, tOp, tUn, rI, rI0, rU, tCB, tCons, tNil, tLst, tTup, tRet, gName, gCons, gNil, gSub, rSetL, tTest, tB, tNot, tAnd, tOr, tAndV, tOrV, tNotV, tNext, tDrop, tCall, tCallK, gKbV, tSl, tNoPart, tPart, tPar, rEq, rNe, tLc_eq, tFor_eq, iRng1, L2.start, cxOf, Cx.nox, tBM, rRepStr, rSlS, rAppend, tx_len]
            have ec : (((shN : Int) + (st : Int) * ((nmIdx w i : Nat) : Int)) % 26).toNat = (shN + st * nmIdx w i) % 26 := by
              rw [← Int.natCast_mul, ← Int.natCast_add]
              omega
            have ecut : cutS (tx (cs.drop a)) none (some ((i : Int) % (((cs.length - a : Nat) : Int) + 1))) = tx ((cs.drop a).take (i % ((cs.drop a).length + 1))) := by
              rw [← cutS_to, List.length_drop]
              congr 2
            rw [ec, ecut, show (⟨#[97 + (shN + st * nmIdx w i) % 26]⟩ : Str) = tx [97 + (shN + st * nmIdx w i) % 26] from rfl, tx_app]
            refine ⟨.inl ⟨rfl, _, .inl (.inl e6)⟩, by rw [tx_len]; exact szl _ (by simp; omega), by omega, by omega, by rw [sizeLine_eq]; omega, s3, fun p7 n7 => ?_⟩
            have np7 : p7 ≠ p := fun z => by rw [z, e6] at n7; cases n7
            have ltl := nmTail_len (w := w) (k := i) (tail := cs.drop a)
            rw [List.length_drop] at ltl
            refine ixLH upd_same (atI3 (w := w) (ez.symm.trans ewi) hw3) ⟨_, tailV w i _, by rw [tx_len, tx_len, List.length_append, List.length_take]; exact szl _ (by simp; omega), _, (upd_ne np7.symm).trans e6, by rw [List.length_map, List.length_range, sizeLine_eq]; omega, _, _, _, rfl, ?_, ?_, ?_⟩
            · rw [upd_same, List.range_succ, List.map_append, tx_app, List.append_assoc]; rfl
            · obtain ⟨b1, b2, b3, h, h'⟩ := T6.new (o := .lst [V.str (tx (cs.drop a)), V.str (if (i : Int) % 2 < 1 then Str.empty else tx (cs.drop a)), V.str (tx ((cs.drop a).take (i % ((cs.drop a).length + 1))))]) n7
              exact ⟨b1, b2, b3, by rw [upd_ne npt.symm]; exact h, h'⟩
            · intro b o nb e
              have eb := x6 b o nb e
              rw [upd_ne (fun z => by rw [z, pn0] at e; cases e), upd_ne (ne_of_none eb n7)]
              exact eb
          · refine .inr ⟨fun z => hz (tx_inj z), .inr (by decide), hd2, s3, ?_⟩
            intro p6 n6
            have np6 : p6 ≠ p := fun z => by rw [z, e1] at n6; cases n6
            have li := nmIdx_lt (w := w) (k := i) (by omega)
            refine ixLH upd_same (atI3 (w := w) (ez.symm.trans ewi) hw3) ⟨((nmIdx w i : Nat) : Int), idxV w i, .inl (by omega), _, _, _, rfl, rfl, by rw [letters_len]; exact szl _ (by decide), letters_at (Int.emod_nonneg _ (by decide)) (Int.emod_lt_of_pos _ (by decide)), ?_⟩
            have T6 := e2.new (o := .lst [V.int i, V.int ((i : Int) / 2), V.int i]) n6
            have e6 : (upd Hd p6 (.lst [V.int i, V.int ((i : Int) / 2), V.int i])) p = _ := (upd_ne np6.symm).trans e1
            have x6 : Ext t H (upd Hd p6 (.lst [V.int i, V.int ((i : Int) / 2), V.int i])) := e3.trans (Ext.new n6)
            generalize upd Hd p6 (.lst [V.int i, V.int ((i : Int) / 2), V.int i]) = H6 at T6 e6 x6
            simp [tSeq, tAsg, tIf, tIfS, tVar, tC, tOp, tUn, rI, rI0, rU, tCB, tCons, tNil, tLst, tTup, tRet, gName, gCons, gNil, gSub, rSetL, tTest, tB, tNot, tAnd, tOr, tAndV, tOrV, tNotV, tNext, tDrop, tCall, tCallK, gKbV, tSl, tNoPart, tPart, tPar, rEq, rNe, tLc_eq, tFor_eq, iRng1, L2.start, cxOf, Cx.nox, tBM, rRepStr, rSlS, rAppend, tx_len]
            have ec : (((shN : Int) + (st : Int) * ((nmIdx w i : Nat) : Int)) % 26).toNat = (shN + st * nmIdx w i) % 26 := by
              rw [← Int.natCast_mul, ← Int.natCast_add]
              omega
            have ecut : cutS (tx (cs.drop a)) none (some ((i : Int) % (((cs.length - a : Nat) : Int) + 1))) = tx ((cs.drop a).take (i % ((cs.drop a).length + 1))) := by
              rw [← cutS_to, List.length_drop]
              congr 2
            rw [ec, ecut, show (⟨#[97 + (shN + st * nmIdx w i) % 26]⟩ : Str) = tx [97 + (shN + st * nmIdx w i) % 26] from rfl, tx_app]
            refine ⟨.inl ⟨rfl, _, .inl (.inl e6)⟩, by rw [tx_len]; exact szl _ (by simp; omega), by omega, by omega, by rw [sizeLine_eq]; omega, s3, fun p7 n7 => ?_⟩
            have np7 : p7 ≠ p := fun z => by rw [z, e6] at n7; cases n7
            have ltl := nmTail_len (w := w) (k := i) (tail := cs.drop a)
            rw [List.length_drop] at ltl
            refine ixLH upd_same (atI3 (w := w) (by rw [tx_len] at ez; exact ez.symm.trans ewi) hw3) ⟨_, tailV w i _, by rw [tx_len, tx_len, List.length_append, List.length_take]; exact szl _ (by simp; omega), _, (upd_ne np7.symm).trans e6, by rw [List.length_map, List.length_range, sizeLine_eq]; omega, _, _, _, rfl, ?_, ?_, ?_⟩
            · rw [upd_same, List.range_succ, List.map_append, tx_app, List.append_assoc]; rfl
            · obtain ⟨b1, b2, b3, h, h'⟩ := T6.new (o := .lst [V.str (tx (cs.drop a)), V.str (if (i : Int) % 2 < 1 then Str.empty else tx (cs.drop a)), V.str (tx ((cs.drop a).take (i % ((cs.drop a).length + 1))))]) n7
              exact ⟨b1, b2, b3, by rw [upd_ne npt.symm]; exact h, h'⟩
            · intro b o nb e
              have eb := x6 b o nb e
              rw [upd_ne (fun z => by rw [z, pn0] at e; cases e), upd_ne (ne_of_none eb n7)]
              exact eb
        · obtain ⟨y3, y11, y12, rfl, e1, e2, e3⟩ := hp
          simp [tSeq, tAsg, tIf, tIfS, tVar, tC, tOp, tUn, rI, rI0, rU, tCB, tCons, tNil, tLst, tTup, tRet, gName, gCons, gNil, gSub, rSetL, tTest, tB, tNot, tAnd, tOr, tAndV, tOrV, tNotV, tNext, tDrop, tCall, tCallK, gKbV, tSl, tNoPart, tPart, tPar, rEq, rNe, tLc_eq, tFor_eq, iRng1, L2.start, cxOf, Cx.nox]
          refine q ((List.range m).map fun k => tx (nm shN st w (cs.take a) (cs.drop a) k)) p Hc (by simp) ?_ ?_ ?_ pn0 e2 e3 (by rw [e1, List.map_map]; rfl)
          · refine nodup_map List.nodup_range ?_
            intro i hi j hj e
            rw [List.mem_range] at hi hj
            exact nm_inj hst hwt (by omega) (by omega) (tx_inj e)
          · intro z hz
            obtain ⟨k, hk, rfl⟩ := List.mem_map.mp hz
            have l1 := nmTail_len (w := w) (k := k) (tail := cs.drop a)
            rw [List.length_drop] at l1
            refine ⟨?_, ?_, ?_⟩
            · rw [tx_len, nm, List.length_append, List.length_cons]; omega
            · rw [tx_len, nm, List.length_append, List.length_cons, List.length_take]; omega
            · rw [tx_cps, nm]
              intro c hc
              rcases List.mem_append.mp hc with h | h
              · exact l2 c (List.mem_of_mem_take h)
              · rcases List.mem_cons.mp h with rfl | h
                · omega
                · exact l2 c (List.mem_of_mem_drop (nmTail_sub c h))
          · rintro ⟨h1, h2⟩
            obtain ⟨i, _, e1⟩ := List.mem_map.mp h1
            obtain ⟨j, _, e2⟩ := List.mem_map.mp h2
            rw [z8_eq] at e1
            rw [y8_eq] at e2
            exact nm_apart (tx_inj e1) (tx_inj e2)
end
theorem sc__law_part : FnScope ["_law_tape_here", "_law_some", "_law_many", "_law_left", "_law_k"] ["_law_tape_here", "_law_some", "_law_many"] (defScope s__law_part) := ⟨rfl, rfl, rfl, by decide +kernel, rfl, by decide +kernel, by decide +kernel⟩
section
variable {P : Program} {w : World} {K : PySem.W.Frag} {mg : Str → Option Value} {base : Heap}
def sp__law_part (K : PySem.W.Frag) : Sp := fun vs H Q _ => ∃ (t a : Addr) (xs : List V) (m n : Nat), vs = [.ref t, .ref a, .int m] ∧ TapeAt H t n ∧ n ≤ 90000000 ∧ (SqL K H a xs ∨ SqT K H a xs) ∧ xs.length ≤ 1000 ∧ m ≤ 1000 ∧
  ∀ (ys rest : List V) (p : Addr) (H' : Hp), (ys ++ rest).Perm xs → ys.length = min m xs.length → H p = none → TapeAt H' t (n + m) → Ext t H H' → H' p = some (.lst ys) → Q (.ref p) H'
def Ppart (H : Hp) (t l : Addr) (xs : List V) (n : Nat) (D : Addr) (i : Nat) (H' : Hp) : Prop := ∃ ys left : List V, ys.length = i ∧ (ys ++ left).Perm xs ∧ H' D = some (.lst ys) ∧ H' l = some (.lst left) ∧ TapeAt H' t (n + i) ∧ Ext t H H' ∧ D ≠ l ∧ D ≠ t ∧ l ≠ t ∧ H D = none ∧ H l = none
theorem ok__law_part (T : Txt K mg) : FnOk P w K mg base CX0 2 T.f__law_part T.fd__law_part ["_law_tape_here", "_law_some", "_law_many"] (sp__law_part K) := by
  refine T.F__law_part.ok sc__law_part (fun vs H Q E h => ?_) (fun cdv A outer s H vs Q E hr h => ?_)
  · obtain ⟨t, a, xs, m, n, rfl, _⟩ := h
    rfl
  · obtain ⟨t, a, xs, m, n, rfl, hT, hn, hS, hx, hm, q⟩ := h
    refine ⟨_, (pss_cons (ps_set (i := 3) sc__law_part.nd rfl (by first | exact Or.inl rfl | exact Or.inr rfl) (pe_callTy call_list_of (by rfl) T.m_list (by decide +kernel) (pa_cons (pv 1) pa_nil)))
      (pss_one (ps_ret (pe_lc (own := [("_law_k", 4)]) (g := (gName 4)) (tt := tYes) (te := (tBM K "list" rPopAt (tVar 3) (tCons (tCall (sp__law_draw K) [] E0 (tCons (tVar 0) (tCons (tCB (rLenQ K) (tCons (tVar 3) tNil)) tNil))) tNil))) (by rfl) sc__law_part.nd (pi_range1 (by rfl) T.m_range (pa_cons (pe_callB (call_min2 rfl) (by rfl) T.m_min (by decide +kernel) (pa_cons (pv 2) (pa_cons (pe_callB call_len_seq (by rfl) T.m_len (by decide +kernel) (pa_cons (pv 3) pa_nil)) pa_nil))) pa_nil)) (blkOk_by (own := [("_law_k", 4)]) (N := ["_law_tape_here", "_law_some", "_law_many", "_law_left", "_law_k"]) (sc := defScope s__law_part) (by decide +kernel)) (fun _ _ _ _ _ => (pg_name (i := 4) sc__law_part.nd rfl (by first | exact Or.inl rfl | exact Or.inr rfl))) (fun _ _ _ _ _ => pts_nil) (fun _ _ _ _ _ => (pe_bm PySem.F.plainAttrs_list PySem.F.slot_list_pop PySem.F.type_list_pop mt_popAt (pv 3) (pa_cons (pe_call (ok__law_draw T) (hr.mono (by decide)) (by rfl) T.g__law_draw T.F__law_draw.kp T.b__law_draw .nil pass0 (pa_cons (pv 0) (pa_cons (pe_callB call_len_seq (by rfl) T.m_len (by decide +kernel) (pa_cons (pv 3) pa_nil)) pa_nil))) pa_nil))))))), ?_⟩
    simp [tSeq, tAsg, tIf, tIfS, tVar, tC, tOp, tUn, rI, rI0, rU, tCB, tCons, tNil, tLst, tTup, tRet, gName, gCons, gNil, gSub, rSetL, tTest, tB, tNot, tAnd, tOr, tAndV, tOrV, tNotV, tNext, tDrop, tCall, tCallK, gKbV, tSl, tNoPart, tPart, tPar, rEq, rNe, tLc_eq, tFor_eq, iRng1, L2.start, cxOf, Cx.nox]
    refine ⟨xs, hS, fun l nl => ⟨xs, .inl (.inl (.inl upd_same)), _, _, ⟨rfl, rfl⟩, by split <;> omega, by split <;> omega, ?_⟩⟩
    have em : (if (xs.length : Int) < (m : Int) then (xs.length : Int) else (m : Int)).toNat = min m xs.length := by split <;> omega
    rw [em]
    have mle : min m xs.length ≤ m := Nat.min_le_left _ _
    have mlx : min m xs.length ≤ xs.length := Nat.min_le_right _ _
    generalize min m xs.length = k at mle mlx q ⊢
    have ntp : ∀ {X : Hp} {q : Addr} {j : Nat}, TapeAt X t j → X q = none → q ≠ t := fun h e z => by
      obtain ⟨a, b, c, h, _⟩ := h
      rw [z, h] at e; cases e
    have lt := ntp hT nl
    have T0 := hT.new (o := .lst xs) nl
    refine lcK (walk_range (lo := 0) (n := k)) (Ppart H t l xs n) (fun D nD => ?_) (fun _ _ _ _ _ => trivial) (fun D i x Ha Hb nD hi hp hy => ?_) (fun D Ha nD hp => ?_)
    · have nDl : D ≠ l := fun z => by rw [z, upd_same] at nD; cases nD
      have nDH : H D = none := by rw [upd_ne nDl] at nD; exact nD
      exact ⟨[], xs, rfl, .refl _, upd_same, by rw [upd_ne nDl.symm, upd_same], T0.new nD, (Ext.new nl).trans (Ext.new nD), nDl, ntp hT nDH, lt, nDH, nl⟩
    · obtain ⟨rfl, rfl⟩ := hy
      obtain ⟨ys, left, l1, l2, l3, l4, l5, l6, l7, l8, l9, l10, l11⟩ := hp
      have ll : ys.length + left.length = xs.length := by rw [← List.length_append]; exact l2.length_eq
      simp [tSeq, tAsg, tIf, tIfS, tVar, tC, tOp, tUn, rI, rI0, rU, tCB, tCons, tNil, tLst, tTup, tRet, gName, gCons, gNil, gSub, rSetL, tTest, tB, tNot, tAnd, tOr, tAndV, tOrV, tNotV, tNext, tDrop, tCall, tCallK, gKbV, tSl, tNoPart, tPart, tPar, rEq, rNe, tLc_eq, tFor_eq, iRng1, L2.start, cxOf, Cx.nox, wipe, tYes, tBM, rLenQ]
      refine ⟨.inl ⟨rfl, _, .inl (.inl l4)⟩, left, .inl (.inl (.inl l4)), t, left.length, n + i, rfl, l5, by omega, by omega, by omega, fun r Hc r0 r1 Tc kc => ?_⟩
      have hr : r.toNat < left.length := by omega
      have e1 : Hc l = some (.lst left) := by rw [kc l l9]; exact l4
      have e2 : Hc D = some (.lst ys) := by rw [kc D l8]; exact l3
      refine ⟨l, left, r, r.toNat, left[r.toNat], rfl, rfl, e1, by omega, by omega, ?_, List.getElem?_eq_getElem hr, ?_⟩
      · exact (ixN_seq (ixN_ok (by omega) hr)).1
      · refine ⟨ys, by rw [upd_ne l7]; exact e2, by rw [sizeLine_eq]; omega, ys ++ [left[r.toNat]], left.eraseIdx r.toNat, by simp [l1], ?_, upd_same, by rw [upd_ne l7.symm, upd_same], ?_, ?_, l7, l8, l9, l10, l11⟩
        · rw [List.append_assoc]
          exact ((List.Perm.append_left ys (erase_perm left _ hr)).trans l2)
        · obtain ⟨a, b, c, h, h'⟩ := Tc
          exact ⟨a, b, c, by rw [upd_ne l8.symm, upd_ne l9.symm]; exact h, h'⟩
        · intro b o nb e
          rw [upd_ne (ne_of_none e l10), upd_ne (ne_of_none e l11), kc b nb]
          exact l6 b o nb e
    · obtain ⟨ys, left, l1, l2, l3, l4, l5, l6, l7, l8, l9, l10, l11⟩ := hp
      exact q ys left D Ha l2 l1 l10 (l5.mono (by omega)) l6 l3
end
theorem sc__law_same : FnScope ["_law_found", "_law_due", "_law_one", "_law_two"] ["_law_found", "_law_due"] (defScope s__law_same) := ⟨rfl, rfl, rfl, by decide +kernel, rfl, by decide +kernel, by decide +kernel⟩
section
variable {P : Program} {w : World} {K : PySem.W.Frag} {mg : Str → Option Value} {base : Heap}
def sp__law_same (K : PySem.W.Frag) : Nat → Sp
  | 0 => fun _ _ _ _ => False
  | n + 1 => fun vs H Q _ => ∃ (x y : V) (d : PyData), vs = [x, y] ∧ Dp K H x d ∧ Dp K H y d ∧ Deep n d ∧ ∀ H', Same H H' → Q (.bl true) H'
def Psame (H : Hp) (D : Addr) (i : Nat) (H' : Hp) : Prop := Same H H' ∧ H' D = some (.lst (List.replicate i (V.bl true)))
theorem ok__law_same (T : Txt K mg) : ∀ n, FnOk P w K mg base CX0 n T.f__law_same T.fd__law_same ["_law_found", "_law_due"] (sp__law_same K n)
  | 0 => ⟨fun _ _ _ _ h => h.elim, fun _ _ _ _ _ _ _ _ _ _ _ _ _ h => h.elim⟩
  | n + 1 => by
    have ih := ok__law_same T n
    refine T.F__law_same.ok sc__law_same (fun vs H Q E h => ?_) (fun cdv A outer s H vs Q E hr h => ?_)
    · obtain ⟨x, y, d, rfl, _⟩ := h
      rfl
    · obtain ⟨x, y, d, rfl, hx, hy, hd, q⟩ := h
      refine ⟨_, (pss_cons (ps_if (pt_val (pe_callB call_isiT (by rfl) T.m_isinstance (by decide +kernel) (pa_cons (pv 1) (pa_cons (pe_tup (pa_cons (pe_bltn (v := .ty "list") (by rfl) T.m_list (by decide +kernel) rfl) (pa_cons (pe_bltn (v := .ty "tuple") (by rfl) T.m_tuple (by decide +kernel) rfl) pa_nil))) pa_nil)))) (pss_cons (ps_if (PW.pt (pw_or (pt_cmpR op_ne (pe_callB call_isi (by rfl) T.m_isinstance (by decide +kernel) (pa_cons (pv 0) (pa_cons (pe_bltn (v := .ty "list") (by rfl) T.m_list (by decide +kernel) rfl) pa_nil))) (pe_callB call_isi (by rfl) T.m_isinstance (by decide +kernel) (pa_cons (pv 1) (pa_cons (pe_bltn (v := .ty "list") (by rfl) T.m_list (by decide +kernel) rfl) pa_nil))) (nomark _)) (pw_or1 (pt_cmpR op_ne (pe_callB call_isi (by rfl) T.m_isinstance (by decide +kernel) (pa_cons (pv 0) (pa_cons (pe_bltn (v := .ty "tuple") (by rfl) T.m_tuple (by decide +kernel) rfl) pa_nil))) (pe_callB call_isi (by rfl) T.m_isinstance (by decide +kernel) (pa_cons (pv 1) (pa_cons (pe_bltn (v := .ty "tuple") (by rfl) T.m_tuple (by decide +kernel) rfl) pa_nil))) (nomark _))))) (pss_one (ps_ret pe_bl)) pss_nil)
      (pss_one (ps_ret (pe_and (pe_cmpR op_eq (pe_callB call_len (by rfl) T.m_len (by decide +kernel) (pa_cons (pv 0) pa_nil)) (pe_callB call_len (by rfl) T.m_len (by decide +kernel) (pa_cons (pv 1) pa_nil)) (nomark _)) (pe_one (pe_callB (cr_all rfl) (by rfl) T.m_all (by decide +kernel) (pa_cons (pe_lc (own := [("_law_one", 2), ("_law_two", 3)]) (g := (gTup K 2 (gCons (gName 2) (gCons (gName 3) gNil)))) (tt := tYes) (te := (tCall (sp__law_same K n) [] E0 (tCons (tVar 2) (tCons (tVar 3) tNil)))) (by rfl) sc__law_same.nd (pi_zipA (by rfl) T.m_zip (pa_cons (pv 0) (pa_cons (pv 1) pa_nil))) (blkOk_by (own := [("_law_one", 2), ("_law_two", 3)]) (N := ["_law_found", "_law_due", "_law_one", "_law_two"]) (sc := defScope s__law_same) (by decide +kernel)) (fun _ _ _ _ _ => (pg_tup rfl (pgs_cons (pg_name (i := 2) sc__law_same.nd rfl (by first | exact Or.inl rfl | exact Or.inr rfl)) (pgs_cons (pg_name (i := 3) sc__law_same.nd rfl (by first | exact Or.inl rfl | exact Or.inr rfl)) pgs_nil)))) (fun _ _ _ _ _ => pts_nil) (fun _ _ _ _ _ => (pe_call ih hr (by rfl) T.g__law_same T.F__law_same.kp T.b__law_same .nil pass0 (pa_cons (pv 2) (pa_cons (pv 3) pa_nil))))) pa_nil))))))) pss_nil)
      (pss_cons (ps_if (PW.pt (pw_or (pt_cmpR op_isN (pv 1) pe_non (nomark _)) (pw_or1 (pt_val (pe_callB call_isiT (by rfl) T.m_isinstance (by decide +kernel) (pa_cons (pv 1) (pa_cons (pe_tup (pa_cons (pe_bltn (v := .ty "str") (by rfl) T.m_str (by decide +kernel) rfl) (pa_cons (pe_bltn (v := .ty "bool") (by rfl) T.m_bool (by decide +kernel) rfl) pa_nil))) pa_nil))))))) (pss_one (ps_ret (pe_and (pe_cmpR op_eq (pe_callB call_isi (by rfl) T.m_isinstance (by decide +kernel) (pa_cons (pv 0) (pa_cons (pe_bltn (v := .ty "bool") (by rfl) T.m_bool (by decide +kernel) rfl) pa_nil))) (pe_callB call_isi (by rfl) T.m_isinstance (by decide +kernel) (pa_cons (pv 1) (pa_cons (pe_bltn (v := .ty "bool") (by rfl) T.m_bool (by decide +kernel) rfl) pa_nil))) (nomark _)) (pe_one (pe_cmpR op_eq (pv 0) (pv 1) (nomark _)))))) pss_nil)
      (pss_one (ps_ret (pe_and (pe_callB call_isi (by rfl) T.m_isinstance (by decide +kernel) (pa_cons (pv 0) (pa_cons (pe_bltn (v := .ty "int") (by rfl) T.m_int (by decide +kernel) rfl) pa_nil))) (pe_and (pe_not (pe_callB call_isi (by rfl) T.m_isinstance (by decide +kernel) (pa_cons (pv 0) (pa_cons (pe_bltn (v := .ty "bool") (by rfl) T.m_bool (by decide +kernel) rfl) pa_nil)))) (pe_one (pe_cmpR op_eq (pv 0) (pv 1) (nomark _))))))))), ?_⟩
      simp [tSeq, tAsg, tIf, tIfS, tVar, tC, tOp, tUn, rI, rI0, rU, tCB, tCons, tNil, tLst, tTup, tRet, gName, gCons, gNil, gSub, rSetL, tTest, tB, tNot, tAnd, tOr, tAndV, tOrV, tNotV, tNext, tDrop, tCall, tCallK, gKbV, tSl, tNoPart, tPart, tPar, rEq, rNe, tLc_eq, tFor_eq, iRng1, L2.start, cxOf, Cx.nox]
      have s2 : 2 ≤ sizeLine := by rw [sizeLine_eq]; decide
      refine ⟨s2, fun p np => isi2 upd_same (Dp.same (Same.new np) hy) (kb_lst d) (kb_tpl d) ?_⟩
      have sp := Same.new (o := .tup [V.ty "list", V.ty "tuple"]) np
      have hx1 := Dp.same sp hx
      have hy1 := Dp.same sp hy
      generalize upd H p (.tup [V.ty "list", V.ty "tuple"]) = H1 at sp hx1 hy1
      clear np hx hy
      cases d with
      | none =>
        cases hx1; cases hy1
        refine .inl ⟨rfl, ?_⟩
        rw [if_pos rfl]
        exact isi1 (b := false) .non kb_NoneType_bool (isi1 (b := false) .non kb_NoneType_bool ⟨rfl, by rw [if_pos rfl]; exact ⟨rfl, by rw [decide_eq_true rfl]; exact q _ sp⟩⟩)
      | bool b =>
        cases hx1; cases hy1
        refine .inl ⟨rfl, ?_⟩
        rw [if_neg (by intro z; cases z)]
        refine ⟨s2, fun p2 np2 => isi2 upd_same (.bl b) kb_bool_str kb_bool_bool (.inr ⟨rfl, ?_⟩)⟩
        exact isi1 (.bl b) kb_bool_bool (isi1 (.bl b) kb_bool_bool ⟨rfl, by rw [if_pos rfl]; exact ⟨rfl, by rw [decide_eq_true rfl]; exact q _ (sp.trans (Same.new np2))⟩⟩)
      | str z =>
        cases hx1; cases hy1
        refine .inl ⟨rfl, ?_⟩
        rw [if_neg (by intro z; cases z)]
        refine ⟨s2, fun p2 np2 => isi2 upd_same (.str z) kb_str_str kb_str_bool (.inr ⟨rfl, ?_⟩)⟩
        exact isi1 (.str z) kb_str_bool (isi1 (.str z) kb_str_bool ⟨rfl, by rw [if_pos rfl]; exact ⟨rfl, by rw [decide_eq_true rfl]; exact q _ (sp.trans (Same.new np2))⟩⟩)
      | int i =>
        cases hx1; cases hy1
        refine .inl ⟨rfl, ?_⟩
        rw [if_neg (by intro z; cases z)]
        refine ⟨s2, fun p2 np2 => isi2 upd_same (.int i) kb_int_str kb_int_bool (.inl ⟨rfl, ?_⟩)⟩
        exact isi1 (.int i) kb_int_int (.inr ⟨rfl, isi1 (.int i) kb_int_bool (.inl ⟨rfl, rfl, by rw [decide_eq_true rfl]; exact q _ (sp.trans (Same.new np2))⟩)⟩)
      | dict kvs => cases hx1
      | list ds =>
        refine .inr ⟨rfl, ?_⟩
        refine isi1 hx1 kb_list_list (isi1 hy1 kb_list_list ⟨rfl, .inl ⟨rfl, isi1 hx1 kb_list_tuple (isi1 hy1 kb_list_tuple ⟨rfl, .inl ⟨rfl, ?_⟩⟩)⟩⟩)
        cases hx1 with
        | @lst a xs _ sa da =>
        cases hy1 with
        | @lst b ys _ sb db =>
        have lx := DpAll.len da
        have ly := DpAll.len db
        refine ⟨xs.length, .inl ⟨xs, sa, rfl⟩, ys.length, .inl ⟨ys, sb, rfl⟩, rfl, ?_⟩
        rw [if_pos (by rw [lx, ly])]
        refine ⟨.ref a, rfl, .ref b, rfl, a, b, xs, ys, rfl, .inl ⟨sa, sb, ?_⟩⟩
        cases n with
        | zero => exact hd.elim
        | succ n =>
        obtain ⟨hd1, hd2⟩ := hd
        refine lcK (walk_zip (xs := xs) (ys := ys) (n := xs.length) (by omega)) (Psame H1) (fun D nD => ⟨Same.new nD, upd_same⟩) (fun D i H' _ h => ⟨h.1.seq sa, h.1.seq sb⟩) (fun D i v Ha Hb nD hi hp hyy => ?_) (fun D Ha nD hp => ?_)
        · obtain ⟨T1, u, v, rfl, nT, rfl, eu, ev⟩ := hyy
          obtain ⟨du, e1, h1⟩ := DpAll.at da eu
          obtain ⟨dv, e2, h2⟩ := DpAll.at db ev
          rw [e1] at e2; cases e2
          refine gTup2 (.inl (.inl upd_same)) ?_
          simp [tSeq, tAsg, tIf, tIfS, tVar, tC, tOp, tUn, rI, rI0, rU, tCB, tCons, tNil, tLst, tTup, tRet, gName, gCons, gNil, gSub, rSetL, tTest, tB, tNot, tAnd, tOr, tAndV, tOrV, tNotV, tNext, tDrop, tCall, tCallK, gKbV, tSl, tNoPart, tPart, tPar, rEq, rNe, tLc_eq, tFor_eq, iRng1, L2.start, cxOf, Cx.nox, wipe, tYes]
          have sm := hp.1.trans (Same.new (o := .tup [u, v]) nT)
          refine ⟨u, v, du, rfl, Dp.same sm h1, Dp.same sm h2, hd2 _ (List.mem_of_getElem? e1), fun H' s' => ⟨_, s' _ _ (Same.new nT _ _ hp.2), by rw [List.length_replicate, sizeLine_eq]; omega, ?_, ?_⟩⟩
          · exact fun b o e => by rw [upd_ne (ne_of_none e nD)]; exact s' _ _ (sm _ _ e)
          · rw [upd_same]; simp [List.replicate_succ']
        · refine ⟨D, List.replicate xs.length true, rfl, .inl (.inl ?_), ?_⟩
          · rw [hp.2, List.map_replicate]
          · rw [show (List.replicate xs.length true).all id = true by simp]
            exact q _ (sp.trans hp.1)
      | tuple ds =>
        refine .inr ⟨rfl, ?_⟩
        refine isi1 hx1 kb_tuple_list (isi1 hy1 kb_tuple_list ⟨rfl, .inl ⟨rfl, isi1 hx1 kb_tuple_tuple (isi1 hy1 kb_tuple_tuple ⟨rfl, .inl ⟨rfl, ?_⟩⟩)⟩⟩)
        cases hx1 with
        | @tup a xs _ sa da =>
        cases hy1 with
        | @tup b ys _ sb db =>
        have lx := DpAll.len da
        have ly := DpAll.len db
        refine ⟨xs.length, .inr ⟨xs, sa, rfl⟩, ys.length, .inr ⟨ys, sb, rfl⟩, rfl, ?_⟩
        rw [if_pos (by rw [lx, ly])]
        refine ⟨.ref a, rfl, .ref b, rfl, a, b, xs, ys, rfl, .inr ⟨sa, sb, ?_⟩⟩
        cases n with
        | zero => exact hd.elim
        | succ n =>
        obtain ⟨hd1, hd2⟩ := hd
        refine lcK (walk_zipT (xs := xs) (ys := ys) (n := xs.length) (by omega)) (Psame H1) (fun D nD => ⟨Same.new nD, upd_same⟩) (fun D i H' _ h => ⟨Same.seqT h.1 sa, Same.seqT h.1 sb⟩) (fun D i v Ha Hb nD hi hp hyy => ?_) (fun D Ha nD hp => ?_)
        · obtain ⟨T1, u, v, rfl, nT, rfl, eu, ev⟩ := hyy
          obtain ⟨du, e1, h1⟩ := DpAll.at da eu
          obtain ⟨dv, e2, h2⟩ := DpAll.at db ev
          rw [e1] at e2; cases e2
          refine gTup2 (.inl (.inl upd_same)) ?_
          simp [tSeq, tAsg, tIf, tIfS, tVar, tC, tOp, tUn, rI, rI0, rU, tCB, tCons, tNil, tLst, tTup, tRet, gName, gCons, gNil, gSub, rSetL, tTest, tB, tNot, tAnd, tOr, tAndV, tOrV, tNotV, tNext, tDrop, tCall, tCallK, gKbV, tSl, tNoPart, tPart, tPar, rEq, rNe, tLc_eq, tFor_eq, iRng1, L2.start, cxOf, Cx.nox, wipe, tYes]
          have sm := hp.1.trans (Same.new (o := .tup [u, v]) nT)
          refine ⟨u, v, du, rfl, Dp.same sm h1, Dp.same sm h2, hd2 _ (List.mem_of_getElem? e1), fun H' s' => ⟨_, s' _ _ (Same.new nT _ _ hp.2), by rw [List.length_replicate, sizeLine_eq]; omega, ?_, ?_⟩⟩
          · exact fun b o e => by rw [upd_ne (ne_of_none e nD)]; exact s' _ _ (sm _ _ e)
          · rw [upd_same]; simp [List.replicate_succ']
        · refine ⟨D, List.replicate xs.length true, rfl, .inl (.inl ?_), ?_⟩
          · rw [hp.2, List.map_replicate]
          · rw [show (List.replicate xs.length true).all id = true by simp]
            exact q _ (sp.trans hp.1)
end
theorem sc_is_within : FnScope ["one", "other", "name"] ["one", "other"] (defScope s_is_within) := ⟨rfl, rfl, rfl, by decide +kernel, rfl, by decide +kernel, by decide +kernel⟩
theorem sc__law_in : FnScope ["_law_one", "_law_other", "_law_name"] ["_law_one", "_law_other"] (defScope s__law_in) := ⟨rfl, rfl, rfl, by decide +kernel, rfl, by decide +kernel, by decide +kernel⟩
section
variable {P : Program} {w : World} {K : PySem.W.Frag} {mg : Str → Option Value} {base : Heap}
def sp_is_within (K : PySem.W.Frag) : Sp := fun vs H Q _ => ∃ (a b : Addr) (z o : List Str), vs = [.ref a, .ref b] ∧ (SqL K H a (z.map V.str) ∨ SqT K H a (z.map V.str)) ∧ (SqL K H b (o.map V.str) ∨ SqT K H b (o.map V.str)) ∧ z.length ≤ 1000 ∧
  ∀ H', Same H H' → Q (.bl (inAll z o)) H'
abbrev sp__law_in := sp_is_within
def Pwith (H : Hp) (z o : List Str) (D : Addr) (i : Nat) (H' : Hp) : Prop := Same H H' ∧ H' D = some (.lst ((z.take i).map fun x => V.bl (decide (x ∈ o))))
theorem ok_is_within (T : Txt K mg) : FnOk P w K mg base CX0 1 T.f_is_within T.fd_is_within ["one", "other"] (sp_is_within K) := by
  refine T.F_is_within.ok sc_is_within (fun vs H Q E h => ?_) (fun cdv A outer s H vs Q E hr h => ?_)
  · obtain ⟨a, b, z, o, rfl, _⟩ := h
    rfl
  · obtain ⟨a, b, z, o, rfl, ha, hb, hl, q⟩ := h
    refine ⟨_, (pss_one (ps_ret (pe_callB (cr_all rfl) (by rfl) T.m_all (by decide +kernel) (pa_cons (pe_lc (own := [("name", 2)]) (g := (gName 2)) (tt := tYes) (te := (tOp (rIn K false) (tVar 2) (tVar 1))) (by rfl) sc_is_within.nd (pi_seq (pv 0)) (blkOk_by (own := [("name", 2)]) (N := ["one", "other", "name"]) (sc := defScope s_is_within) (by decide +kernel)) (fun _ _ _ _ _ => (pg_name (i := 2) sc_is_within.nd rfl (by first | exact Or.inl rfl | exact Or.inr rfl))) (fun _ _ _ _ _ => pts_nil) (fun _ _ _ _ _ => (pe_cmpR op_in_seq (pv 2) (pv 1) (by rfl)))) pa_nil)))), ?_⟩
    simp [tSeq, tAsg, tIf, tIfS, tVar, tC, tOp, tUn, rI, rI0, rU, tCB, tCons, tNil, tLst, tTup, tRet, gName, gCons, gNil, gSub, rSetL, tTest, tB, tNot, tAnd, tOr, tAndV, tOrV, tNotV, tNext, tDrop, tCall, tCallK, gKbV, tSl, tNoPart, tPart, tPar, rEq, rNe, tLc_eq, tFor_eq, iRng1, L2.start, cxOf, Cx.nox]
    refine walk_any rfl ha fun J wk => lcK wk (Pwith H z o) (fun D nD => ⟨Same.new nD, upd_same⟩) (fun D i H' _ h => h.1) (fun D i x Ha Hb nD hi hp hy => ?_) (fun D Hg nD hp => ?_)
    · obtain ⟨rfl, hx⟩ := hy
      obtain ⟨u, eu, rfl⟩ := strs_at hx
      simp [tSeq, tAsg, tIf, tIfS, tVar, tC, tOp, tUn, rI, rI0, rU, tCB, tCons, tNil, tLst, tTup, tRet, gName, gCons, gNil, gSub, rSetL, tTest, tB, tNot, tAnd, tOr, tAndV, tOrV, tNotV, tNext, tDrop, tCall, tCallK, gKbV, tSl, tNoPart, tPart, tPar, rEq, rNe, tLc_eq, tFor_eq, iRng1, L2.start, cxOf, Cx.nox, wipe, tYes]
      refine ⟨b, _, rfl, seq_same hp.1 hb, rfl, flat_strs o, ?_⟩
      rw [inV_strs]
      refine ⟨_, hp.2, by rw [List.length_map, List.length_take, sizeLine_eq]; omega, fun c u e => by rw [upd_ne (ne_of_none e nD)]; exact hp.1 _ _ e, ?_⟩
      rw [upd_same, take_at eu, List.map_append]; rfl
    · rw [List.length_map, Pwith, List.take_length] at hp
      refine ⟨D, z.map fun x => decide (x ∈ o), rfl, .inl (.inl (by rw [hp.2, List.map_map]; rfl)), ?_⟩
      rw [inAll_take]
      exact q _ hp.1
theorem ok__law_in (T : Txt K mg) : FnOk P w K mg base CX0 1 T.f__law_in T.fd__law_in ["_law_one", "_law_other"] (sp__law_in K) := by
  refine T.F__law_in.ok sc__law_in (fun vs H Q E h => ?_) (fun cdv A outer s H vs Q E hr h => ?_)
  · obtain ⟨a, b, z, o, rfl, _⟩ := h
    rfl
  · obtain ⟨a, b, z, o, rfl, ha, hb, hl, q⟩ := h
    refine ⟨_, (pss_one (ps_ret (pe_callB (cr_all rfl) (by rfl) T.m_all (by decide +kernel) (pa_cons (pe_lc (own := [("_law_name", 2)]) (g := (gName 2)) (tt := tYes) (te := (tOp (rIn K false) (tVar 2) (tVar 1))) (by rfl) sc__law_in.nd (pi_seq (pv 0)) (blkOk_by (own := [("_law_name", 2)]) (N := ["_law_one", "_law_other", "_law_name"]) (sc := defScope s__law_in) (by decide +kernel)) (fun _ _ _ _ _ => (pg_name (i := 2) sc__law_in.nd rfl (by first | exact Or.inl rfl | exact Or.inr rfl))) (fun _ _ _ _ _ => pts_nil) (fun _ _ _ _ _ => (pe_cmpR op_in_seq (pv 2) (pv 1) (by rfl)))) pa_nil)))), ?_⟩
    simp [tSeq, tAsg, tIf, tIfS, tVar, tC, tOp, tUn, rI, rI0, rU, tCB, tCons, tNil, tLst, tTup, tRet, gName, gCons, gNil, gSub, rSetL, tTest, tB, tNot, tAnd, tOr, tAndV, tOrV, tNotV, tNext, tDrop, tCall, tCallK, gKbV, tSl, tNoPart, tPart, tPar, rEq, rNe, tLc_eq, tFor_eq, iRng1, L2.start, cxOf, Cx.nox]
    refine walk_any rfl ha fun J wk => lcK wk (Pwith H z o) (fun D nD => ⟨Same.new nD, upd_same⟩) (fun D i H' _ h => h.1) (fun D i x Ha Hb nD hi hp hy => ?_) (fun D Hg nD hp => ?_)
    · obtain ⟨rfl, hx⟩ := hy
      obtain ⟨u, eu, rfl⟩ := strs_at hx
      simp [tSeq, tAsg, tIf, tIfS, tVar, tC, tOp, tUn, rI, rI0, rU, tCB, tCons, tNil, tLst, tTup, tRet, gName, gCons, gNil, gSub, rSetL, tTest, tB, tNot, tAnd, tOr, tAndV, tOrV, tNotV, tNext, tDrop, tCall, tCallK, gKbV, tSl, tNoPart, tPart, tPar, rEq, rNe, tLc_eq, tFor_eq, iRng1, L2.start, cxOf, Cx.nox, wipe, tYes]
      refine ⟨b, _, rfl, seq_same hp.1 hb, rfl, flat_strs o, ?_⟩
      rw [inV_strs]
      refine ⟨_, hp.2, by rw [List.length_map, List.length_take, sizeLine_eq]; omega, fun c u e => by rw [upd_ne (ne_of_none e nD)]; exact hp.1 _ _ e, ?_⟩
      rw [upd_same, take_at eu, List.map_append]; rfl
    · rw [List.length_map, Pwith, List.take_length] at hp
      refine ⟨D, z.map fun x => decide (x ∈ o), rfl, .inl (.inl (by rw [hp.2, List.map_map]; rfl)), ?_⟩
      rw [inAll_take]
      exact q _ hp.1
end
theorem sc_has_one_within : FnScope ["lots", "gone", "lot"] ["lots", "gone"] (defScope s_has_one_within) := ⟨rfl, rfl, rfl, by decide +kernel, rfl, by decide +kernel, by decide +kernel⟩
theorem sc_lots_of : FnScope ["orchard", "fruit", "each", "lots", "lot"] ["orchard", "fruit"] (defScope s_lots_of) := ⟨rfl, rfl, rfl, by decide +kernel, rfl, by decide +kernel, by decide +kernel⟩
theorem sc_is_ripe : FnScope ["orchard", "fruit", "gone"] ["orchard", "fruit", "gone"] (defScope s_is_ripe) := ⟨rfl, rfl, rfl, by decide +kernel, rfl, by decide +kernel, by decide +kernel⟩
theorem sc_ripe : FnScope ["orchard", "gone", "fruit", "lots"] ["orchard", "gone"] (defScope s_ripe) := ⟨rfl, rfl, rfl, by decide +kernel, rfl, by decide +kernel, by decide +kernel⟩
section
variable {P : Program} {w : World} {K : PySem.W.Frag} {mg : Str → Option Value} {base : Heap}
def sp_has_one_within (K : PySem.W.Frag) : Sp := fun vs H Q _ => ∃ (v : V) (d : PyData) (ls : List (List Str)) (b : Addr) (o : List Str), vs = [v, .ref b] ∧ Dp K H v d ∧ flat d = lotsD ls ∧ (SqL K H b (o.map V.str) ∨ SqT K H b (o.map V.str)) ∧ ls.length ≤ 1000 ∧ (∀ z ∈ ls, z.length ≤ 1000) ∧
  ∀ H', Same H H' → Q (.bl (inOne ls o)) H'
def Phow (H : Hp) (ls : List (List Str)) (o : List Str) (D : Addr) (i : Nat) (H' : Hp) : Prop := Same H H' ∧ H' D = some (.lst ((ls.take i).map fun z => V.bl (inAll z o)))
theorem ok_has_one_within (T : Txt K mg) : FnOk P w K mg base CX0 2 T.f_has_one_within T.fd_has_one_within ["lots", "gone"] (sp_has_one_within K) := by
  refine T.F_has_one_within.ok sc_has_one_within (fun vs H Q E h => ?_) (fun cdv A outer s H vs Q E hr h => ?_)
  · obtain ⟨v, d, ls, b, o, rfl, _⟩ := h
    rfl
  · obtain ⟨v, d, ls, b, o, rfl, hd, ed, hb, hl, hz, q⟩ := h
    obtain ⟨a, xs, ds, rfl, ha, hx, ex⟩ := seq_of hd ed
    have lx := dpAll_len hx ex
    rw [List.length_map] at lx
    refine ⟨_, (pss_one (ps_ret (pe_callB (cr_any rfl) (by rfl) T.m_any (by decide +kernel) (pa_cons (pe_lc (own := [("lot", 2)]) (g := (gName 2)) (tt := tYes) (te := (tCall (sp_is_within K) [] E0 (tCons (tVar 2) (tCons (tVar 1) tNil)))) (by rfl) sc_has_one_within.nd (pi_seq (pv 0)) (blkOk_by (own := [("lot", 2)]) (N := ["lots", "gone", "lot"]) (sc := defScope s_has_one_within) (by decide +kernel)) (fun _ _ _ _ _ => (pg_name (i := 2) sc_has_one_within.nd rfl (by first | exact Or.inl rfl | exact Or.inr rfl))) (fun _ _ _ _ _ => pts_nil) (fun _ _ _ _ _ => (pe_call (ok_is_within T) (hr.mono (by decide)) (by rfl) T.g_is_within T.F_is_within.kp T.b_is_within .nil pass0 (pa_cons (pv 2) (pa_cons (pv 1) pa_nil))))) pa_nil)))), ?_⟩
    simp [tSeq, tAsg, tIf, tIfS, tVar, tC, tOp, tUn, rI, rI0, rU, tCB, tCons, tNil, tLst, tTup, tRet, gName, gCons, gNil, gSub, rSetL, tTest, tB, tNot, tAnd, tOr, tAndV, tOrV, tNotV, tNext, tDrop, tCall, tCallK, gKbV, tSl, tNoPart, tPart, tPar, rEq, rNe, tLc_eq, tFor_eq, iRng1, L2.start, cxOf, Cx.nox]
    refine walk_any rfl ha fun J wk => lcK wk (Phow H ls o) (fun D nD => ⟨Same.new nD, upd_same⟩) (fun D i H' _ h => h.1) (fun D i x Ha Hb nD hi hp hy => ?_) (fun D Hg nD hp => ?_)
    · obtain ⟨rfl, hx'⟩ := hy
      obtain ⟨dx, h1, h2⟩ := Rp.DpAll.flatAt hx ex hx'
      rw [List.getElem?_map] at h2
      obtain ⟨z, ez, e2⟩ := Option.map_eq_some_iff.mp h2
      obtain ⟨c, rfl, hc⟩ := lot_of h1 e2.symm
      simp [tSeq, tAsg, tIf, tIfS, tVar, tC, tOp, tUn, rI, rI0, rU, tCB, tCons, tNil, tLst, tTup, tRet, gName, gCons, gNil, gSub, rSetL, tTest, tB, tNot, tAnd, tOr, tAndV, tOrV, tNotV, tNext, tDrop, tCall, tCallK, gKbV, tSl, tNoPart, tPart, tPar, rEq, rNe, tLc_eq, tFor_eq, iRng1, L2.start, cxOf, Cx.nox, wipe, tYes]
      refine ⟨c, b, z, o, rfl, seq_same hp.1 hc, seq_same hp.1 hb, hz z (List.mem_of_getElem? ez), fun H' sH => ?_⟩
      refine ⟨_, sH _ _ hp.2, by rw [List.length_map, List.length_take, sizeLine_eq]; omega, fun c u e => by rw [upd_ne (ne_of_none e nD)]; exact sH _ _ (hp.1 _ _ e), ?_⟩
      rw [upd_same, take_at ez, List.map_append]; rfl
    · rw [lx, Phow, List.take_length] at hp
      refine ⟨D, ls.map fun z => inAll z o, rfl, .inl (.inl (by rw [hp.2, List.map_map]; rfl)), ?_⟩
      rw [inOne_map]
      exact q _ hp.1
def sp_lots_of (K : PySem.W.Frag) (C : Addr) : Sp := fun vs H Q E => ∃ (v : V) (d : PyData) (G : List (Str × List (List Str))) (f : Str), vs = [v, .str f] ∧ Dp K H v d ∧ flat d = grD G ∧ G.length ≤ 1000 ∧ (∀ p ∈ G, p.2.length ≤ 1000) ∧
  (∀ ls, lookG G f = some ls → ∀ v' H', Same H H' → Dp K H' v' (lotsD ls) → Q v' H') ∧
  (lookG G f = none → ∀ (e : Addr) (H' : Hp), H e = none → Same H H' → H' e = some (.xd [("what", .str f)]) → E (.ref C) (some e) H')
def Plots (H : Hp) (a : Addr) (f : Str) (G : List (Str × List (List Str))) (i : Nat) (σ : L2.St) (H' : Hp) : Prop := ∃ y2 y3 y4 : Option V, σ = [some (.ref a), some (.str f), y2, y3, y4] ∧ Same H H' ∧ lookG (G.take i) f = none
def Ptups (K : PySem.W.Frag) (H : Hp) (ls : List (List Str)) (D : Addr) (i : Nat) (H' : Hp) : Prop := ∃ vs, Same H (mask D H') ∧ H' D = some (.lst vs) ∧ vs.length = i ∧ DpAll K (mask D H') vs ((ls.take i).map txD)
theorem ok_lots_of (T : Txt K mg) : FnOk P w K mg base (L2.CX P w) 4 T.f_lots_of T.fd_lots_of ["orchard", "fruit"] (sp_lots_of K T.c_NoFruit) := by
  refine T.F_lots_of.okX sc_lots_of (fun vs H Q E h => ?_) (fun cdv A outer s H vs Q E hr h => ?_)
  · obtain ⟨v, d, G, f, rfl, _⟩ := h
    rfl
  · obtain ⟨v, d, G, f, rfl, hd, ed, hl, hz, q1, q2⟩ := h
    obtain ⟨a, xs, ds, rfl, ha, hx, ex⟩ := seq_of hd ed
    have lx := dpAll_len hx ex
    rw [List.length_map] at lx
    refine ⟨_, (pss_cons (ps_for (passes_of rfl) rfl (pi_seq (pv 0)) (pg_sq (n := 2) rfl (pgs_cons (pg_name (i := 2) sc_lots_of.nd rfl (by first | exact Or.inl rfl | exact Or.inr rfl)) (pgs_cons (pg_name (i := 3) sc_lots_of.nd rfl (by first | exact Or.inl rfl | exact Or.inr rfl)) pgs_nil)))
      (pss_one (ps_if (pt_cmpR op_eq (pv 2) (pv 1) (nomark _)) (pss_one (ps_ret (pe_callTy call_tuple_of (by rfl) T.m_tuple (by decide +kernel) (pa_cons (pe_lc (own := [("lot", 4)]) (g := (gName 4)) (tt := tYes) (te := (tCB (rTupOf K) (tCons (tVar 4) tNil))) (by rfl) sc_lots_of.nd (pi_seq (pv 3)) (blkOk_by (own := [("lot", 4)]) (N := ["orchard", "fruit", "each", "lots", "lot"]) (sc := defScope s_lots_of) (by decide +kernel)) (fun _ _ _ _ _ => (pg_name (i := 4) sc_lots_of.nd rfl (by first | exact Or.inl rfl | exact Or.inr rfl))) (fun _ _ _ _ _ => pts_nil) (fun _ _ _ _ _ => (pe_callTy call_tuple_of (by rfl) T.m_tuple (by decide +kernel) (pa_cons (pv 4) pa_nil)))) pa_nil)))) pss_nil)))
      (pss_one (ps_raiseWhat (nx := "NoFruit") rfl T.w_NoFruit hr (takes_of rfl rfl rfl rfl) (by exact (pa_cons (pv 1) pa_nil)) rfl))), ?_⟩
    simp [tSeq, tAsg, tIf, tIfS, tVar, tC, tOp, tUn, rI, rI0, rU, tCB, tCons, tNil, tLst, tTup, tRet, gName, gCons, gNil, gSub, rSetL, tTest, tB, tNot, tAnd, tOr, tAndV, tOrV, tNotV, tNext, tDrop, tCall, tCallK, gKbV, tSl, tNoPart, tPart, tPar, rEq, rNe, tLc_eq, tFor_eq, iRng1, L2.start, cxOf, Cx.nox]
    refine walk_any rfl ha fun J wk => frK wk (Plots H a f G) ⟨none, none, none, rfl, fun _ _ h => h, by simp [lookG]⟩ (fun i σ H' _ h => h.elim fun _ h => h.elim fun _ h => h.elim fun _ h => h.2.1) (fun i x σ H1 H2 hi hp hy => ?_) (fun σ H' hp => ?_)
    · obtain ⟨y2, y3, y4, rfl, sH, hno⟩ := hp
      obtain ⟨rfl, hx'⟩ := hy
      obtain ⟨dx, h1, h2⟩ := Rp.DpAll.flatAt hx ex hx'
      rw [List.getElem?_map] at h2
      obtain ⟨p, ep, e2⟩ := Option.map_eq_some_iff.mp h2
      obtain ⟨c, l, dl, rfl, hc, hdl, edl⟩ := fruit_of h1 e2.symm
      refine gSq2 (seq_same sH hc) ?_
      simp [tSeq, tAsg, tIf, tIfS, tVar, tC, tOp, tUn, rI, rI0, rU, tCB, tCons, tNil, tLst, tTup, tRet, gName, gCons, gNil, gSub, rSetL, tTest, tB, tNot, tAnd, tOr, tAndV, tOrV, tNotV, tNext, tDrop, tCall, tCallK, gKbV, tSl, tNoPart, tPart, tPar, rEq, rNe, tLc_eq, tFor_eq, iRng1, L2.start, cxOf, Cx.nox]
      refine ⟨rfl, ?_⟩
      by_cases hf : p.1 = f
      · rw [if_pos hf]
        have look := look_hit hno ep hf
        have q := q1 _ look
        obtain ⟨b, ws, es, rfl, hb, hw, ew⟩ := seq_of (Dp.same sH hdl) edl
        have lw := dpAll_len hw ew
        rw [List.length_map] at lw
        have hw1 := hz p (List.mem_of_getElem? ep)
        refine walk_any rfl hb fun J wk => lcK wk (Ptups K H2 p.2) (fun D nD => ⟨[], mask_into nD (Same.new nD), upd_same, rfl, .nil⟩) (fun D i H' _ h => h.elim fun _ h => mask_to h.1) (fun D i' x' Ha Hb nD hi' hp' hy' => ?_) (fun D Hg nD hp' => ?_)
        · obtain ⟨vs, s1, eD, lv, dv⟩ := hp'
          obtain ⟨rfl, hx2⟩ := hy'
          obtain ⟨d2, g1, g2⟩ := Rp.DpAll.flatAt hw ew hx2
          rw [List.getElem?_map] at g2
          obtain ⟨z, ez, e3⟩ := Option.map_eq_some_iff.mp g2
          obtain ⟨c2, rfl, hc2⟩ := lot_of (Dp.same s1 g1) e3.symm
          simp [tSeq, tAsg, tIf, tIfS, tVar, tC, tOp, tUn, rI, rI0, rU, tCB, tCons, tNil, tLst, tTup, tRet, gName, gCons, gNil, gSub, rSetL, tTest, tB, tNot, tAnd, tOr, tAndV, tOrV, tNotV, tNext, tDrop, tCall, tCallK, gKbV, tSl, tNoPart, tPart, tPar, rEq, rNe, tLc_eq, tFor_eq, iRng1, L2.start, cxOf, Cx.nox, wipe, tYes]
          have szv : vs.length < sizeLine := by rw [sizeLine_eq]; omega
          rcases hc2 with hc2 | hc2
          · refine ⟨c2, _, rfl, .inl ⟨(mask_same D _).seq hc2, fun q nq => ?_⟩⟩
            have qD : q ≠ D := fun z => by rw [z, eD] at nq; cases nq
            have sq := mask_new (D := D) (o := .tup (z.map V.str)) nq
            refine ⟨vs, by rw [upd_ne qD.symm]; exact eD, by omega, vs ++ [.ref q], ?_, upd_same, by simp [lv], ?_⟩
            · rw [mask_upd]; exact s1.trans sq
            · rw [mask_upd, take_at ez, List.map_append]
              exact Rp.DpAll.snoc (Rp.DpAll.same sq dv) (dp_tx (.inl (.inl (by rw [mask_ne qD]; exact upd_same))))
          · refine ⟨c2, _, rfl, .inr ⟨Same.seqT (mask_same D _) hc2, ?_⟩⟩
            refine ⟨vs, eD, by omega, vs ++ [.ref c2], ?_, upd_same, by simp [lv], ?_⟩
            · rw [mask_upd]; exact s1
            · rw [mask_upd, take_at ez, List.map_append]
              exact Rp.DpAll.snoc dv (dp_tx hc2)
        · obtain ⟨vs, s1, eD, lv, dv⟩ := hp'
          rw [lw, List.take_length] at dv
          refine ⟨D, rfl, vs, .inl ⟨.inl (.inl eD), fun l nl => ?_⟩⟩
          have sl := Same.new (o := .tup vs) nl
          exact q (.ref l) _ (sH.trans ((mask_to s1).trans sl)) (.tup (.inl (.inl upd_same)) (Rp.DpAll.same sl (Rp.DpAll.same (mask_same D Hg) dv)))
      · rw [if_neg hf]
        exact ⟨_, _, _, rfl, sH, look_miss hno ep hf⟩
    · obtain ⟨y2, y3, y4, rfl, sH, hno⟩ := hp
      rw [lx, List.take_length] at hno
      exact ⟨.str f, rfl, .str f, rfl, fun e ne => q2 hno e _ (sH.free ne) (sH.trans (Same.new ne)) upd_same⟩
def sp_is_ripe (K : PySem.W.Frag) (C : Addr) : Sp := fun vs H Q E => ∃ (v : V) (d : PyData) (G : List (Str × List (List Str))) (f : Str) (b : Addr) (o : List Str), vs = [v, .str f, .ref b] ∧ Dp K H v d ∧ flat d = grD G ∧ G.length ≤ 1000 ∧ (∀ p ∈ G, p.2.length ≤ 1000 ∧ ∀ z ∈ p.2, z.length ≤ 1000) ∧
  (SqL K H b (o.map V.str) ∨ SqT K H b (o.map V.str)) ∧
  (∀ ls, lookG G f = some ls → ∀ H', Same H H' → Q (.bl (inOne ls o)) H') ∧
  (lookG G f = none → ∀ (e : Addr) (H' : Hp), H e = none → Same H H' → H' e = some (.xd [("what", .str f)]) → E (.ref C) (some e) H')
theorem ok_is_ripe (T : Txt K mg) : FnOk P w K mg base (L2.CX P w) 5 T.f_is_ripe T.fd_is_ripe ["orchard", "fruit", "gone"] (sp_is_ripe K T.c_NoFruit) := by
  refine T.F_is_ripe.okX sc_is_ripe (fun vs H Q E h => ?_) (fun cdv A outer s H vs Q E hr h => ?_)
  · obtain ⟨v, d, G, f, b, o, rfl, _⟩ := h
    rfl
  · obtain ⟨v, d, G, f, b, o, rfl, hd, ed, hl, hz, hb, q1, q2⟩ := h
    refine ⟨_, (pss_one (ps_ret (pe_call (ok_has_one_within T) (hr.mono (by decide)) (by rfl) T.g_has_one_within T.F_has_one_within.kp T.b_has_one_within .nil pass0 (pa_cons (pe_call (ok_lots_of T) (hr.mono (by decide)) (by rfl) T.g_lots_of T.F_lots_of.kp T.b_lots_of .nil (passes_call (takes_of rfl rfl rfl rfl) (fun _ _ _ _ h => h)) (pa_cons (pv 0) (pa_cons (pv 1) pa_nil))) (pa_cons (pv 2) pa_nil))))), ?_⟩
    simp [tSeq, tAsg, tIf, tIfS, tVar, tC, tOp, tUn, rI, rI0, rU, tCB, tCons, tNil, tLst, tTup, tRet, gName, gCons, gNil, gSub, rSetL, tTest, tB, tNot, tAnd, tOr, tAndV, tOrV, tNotV, tNext, tDrop, tCall, tCallK, gKbV, tSl, tNoPart, tPart, tPar, rEq, rNe, tLc_eq, tFor_eq, iRng1, L2.start, cxOf, Cx.nox]
    refine ⟨v, d, G, f, rfl, hd, ed, hl, fun p hp => (hz p hp).1, fun ls el v' H' sH dv => ?_, q2⟩
    obtain ⟨p, pm, rfl⟩ : ∃ p ∈ G, p.2 = ls := by
      unfold lookG at el
      obtain ⟨p, e1, e2⟩ := Option.map_eq_some_iff.mp el
      exact ⟨p, List.mem_of_find?_eq_some e1, e2⟩
    exact ⟨v', _, p.2, b, o, rfl, dv, flat_lots _, seq_same sH hb, (hz p pm).1, (hz p pm).2, fun H'' s2 => q1 _ el _ (sH.trans s2)⟩
def sp_ripe (K : PySem.W.Frag) : Sp := fun vs H Q _ => ∃ (v : V) (d : PyData) (G : List (Str × List (List Str))) (b : Addr) (o : List Str), vs = [v, .ref b] ∧ Dp K H v d ∧ flat d = grD G ∧ G.length ≤ 1000 ∧ (∀ p ∈ G, p.2.length ≤ 1000 ∧ ∀ z ∈ p.2, z.length ≤ 1000) ∧
  (SqL K H b (o.map V.str) ∨ SqT K H b (o.map V.str)) ∧ ∀ (q : Addr) (H' : Hp), H q = none → Same H H' → H' q = some (.lst ((ripeG G o).map V.str)) → Q (.ref q) H'
def Pripe (H : Hp) (G : List (Str × List (List Str))) (o : List Str) (D : Addr) (i : Nat) (H' : Hp) : Prop := Same H H' ∧ H' D = some (.lst ((ripeG (G.take i) o).map V.str))
theorem ok_ripe (T : Txt K mg) : FnOk P w K mg base CX0 3 T.f_ripe T.fd_ripe ["orchard", "gone"] (sp_ripe K) := by
  refine T.F_ripe.ok sc_ripe (fun vs H Q E h => ?_) (fun cdv A outer s H vs Q E hr h => ?_)
  · obtain ⟨v, d, G, b, o, rfl, _⟩ := h
    rfl
  · obtain ⟨v, d, G, b, o, rfl, hd, ed, hl, hz, hb, q⟩ := h
    obtain ⟨a, xs, ds, rfl, ha, hx, ex⟩ := seq_of hd ed
    have lx := dpAll_len hx ex
    rw [List.length_map] at lx
    refine ⟨_, (pss_one (ps_ret (pe_lc (own := [("fruit", 2), ("lots", 3)]) (g := (gSq K 2 (gCons (gName 2) (gCons (gName 3) gNil)))) (tt := (tAnd (tTest (tOp (rIn K true) (tVar 2) (tVar 1))) (tB (tCall (sp_has_one_within K) [] E0 (tCons (tVar 3) (tCons (tVar 1) tNil)))))) (te := (tVar 2)) (by rfl) sc_ripe.nd (pi_seq (pv 0)) (blkOk_by (own := [("fruit", 2), ("lots", 3)]) (N := ["orchard", "gone", "fruit", "lots"]) (sc := defScope s_ripe) (by decide +kernel)) (fun _ _ _ _ _ => (pg_sq (n := 2) rfl (pgs_cons (pg_name (i := 2) sc_ripe.nd rfl (by first | exact Or.inl rfl | exact Or.inr rfl)) (pgs_cons (pg_name (i := 3) sc_ripe.nd rfl (by first | exact Or.inl rfl | exact Or.inr rfl)) pgs_nil)))) (fun _ _ _ _ _ => (pts_one (PW.pt (pw_and (pt_cmpR op_notIn_seq (pv 2) (pv 1) (by rfl)) (pw_and1 (pt_val (pe_call (ok_has_one_within T) (hr.mono (by decide)) (by rfl) T.g_has_one_within T.F_has_one_within.kp T.b_has_one_within .nil pass0 (pa_cons (pv 3) (pa_cons (pv 1) pa_nil))))))))) (fun _ _ _ _ _ => (pv 2))))), ?_⟩
    simp [tSeq, tAsg, tIf, tIfS, tVar, tC, tOp, tUn, rI, rI0, rU, tCB, tCons, tNil, tLst, tTup, tRet, gName, gCons, gNil, gSub, rSetL, tTest, tB, tNot, tAnd, tOr, tAndV, tOrV, tNotV, tNext, tDrop, tCall, tCallK, gKbV, tSl, tNoPart, tPart, tPar, rEq, rNe, tLc_eq, tFor_eq, iRng1, L2.start, cxOf, Cx.nox]
    refine walk_any rfl ha fun J wk => lcK wk (Pripe H G o) (fun D nD => ⟨Same.new nD, upd_same⟩) (fun D i H' _ h => h.1) (fun D i x Ha Hb nD hi hp hy => ?_) (fun D Hg nD hp => ?_)
    · obtain ⟨rfl, hx'⟩ := hy
      obtain ⟨dx, h1, h2⟩ := Rp.DpAll.flatAt hx ex hx'
      rw [List.getElem?_map] at h2
      obtain ⟨p, ep, e2⟩ := Option.map_eq_some_iff.mp h2
      obtain ⟨c, l, dl, rfl, hc, hdl, edl⟩ := fruit_of h1 e2.symm
      refine gSq2 (seq_same hp.1 hc) ?_
      simp [tSeq, tAsg, tIf, tIfS, tVar, tC, tOp, tUn, rI, rI0, rU, tCB, tCons, tNil, tLst, tTup, tRet, gName, gCons, gNil, gSub, rSetL, tTest, tB, tNot, tAnd, tOr, tAndV, tOrV, tNotV, tNext, tDrop, tCall, tCallK, gKbV, tSl, tNoPart, tPart, tPar, rEq, rNe, tLc_eq, tFor_eq, iRng1, L2.start, cxOf, Cx.nox, wipe]
      refine ⟨b, _, rfl, seq_same hp.1 hb, rfl, flat_strs o, ?_⟩
      rw [inV_strs]
      have st := ripe_step (o := o) ep
      have rl := ripe_le (G := G.take i) (o := o)
      rw [List.length_take] at rl
      have hp0 := hz p (List.mem_of_getElem? ep)
      by_cases hin : p.1 ∈ o
      · refine .inl ⟨by simp [hin], hp.1, ?_⟩
        rw [st]; simp [hin, hp.2]
      · refine .inr ⟨by simp [hin], l, dl, p.2, b, o, rfl, Dp.same hp.1 hdl, edl, seq_same hp.1 hb, hp0.1, hp0.2, fun H' sH => ?_⟩
        by_cases h1 : inOne p.2 o = true
        · refine .inr ⟨by rw [h1], _, sH _ _ hp.2, by rw [List.length_map, sizeLine_eq]; omega, fun c u e => by rw [upd_ne (ne_of_none e nD)]; exact sH _ _ (hp.1 _ _ e), ?_⟩
          rw [upd_same, st]; simp [hin, h1]
        · refine .inl ⟨by simp [h1], hp.1.trans sH, ?_⟩
          rw [st, sH _ _ hp.2]; simp [hin, h1]
    · rw [lx, Pripe, List.take_length] at hp
      exact q D Hg nD hp.1 hp.2
end
theorem sc__law_lists : FnScope ["_law_thing", "_law_one"] ["_law_thing"] (defScope s__law_lists) := ⟨rfl, rfl, rfl, by decide +kernel, rfl, by decide +kernel, by decide +kernel⟩
section
variable {P : Program} {w : World} {K : PySem.W.Frag} {mg : Str → Option Value} {base : Heap}
def sp__law_lists (K : PySem.W.Frag) : Nat → Sp
  | 0 => fun _ _ _ _ => False
  | n + 1 => fun vs H Q _ => ∃ (x : V) (d : PyData), vs = [x] ∧ Dp K H x d ∧ Deep n d ∧ ∀ v H', Same H H' → Dp K (news H H') v (listy d) → Q v H'
def Plist (K : PySem.W.Frag) (H : Hp) (ds : List PyData) (D : Addr) (i : Nat) (H' : Hp) : Prop := ∃ vs, Same H (mask D H') ∧ H' D = some (.lst vs) ∧ vs.length = i ∧ DpAll K (mask D (news H H')) vs ((ds.take i).map listy)
theorem ok__law_lists (T : Txt K mg) : ∀ n, FnOk P w K mg base CX0 n T.f__law_lists T.fd__law_lists ["_law_thing"] (sp__law_lists K n)
  | 0 => ⟨fun _ _ _ _ h => h.elim, fun _ _ _ _ _ _ _ _ _ _ _ _ _ h => h.elim⟩
  | n + 1 => by
    have ih := ok__law_lists T n
    refine T.F__law_lists.ok sc__law_lists (fun vs H Q E h => ?_) (fun cdv A outer s H vs Q E hr h => ?_)
    · obtain ⟨x, d, rfl, _⟩ := h
      rfl
    · obtain ⟨x, d, rfl, hx, hd, q⟩ := h
      refine ⟨_, (pss_one (ps_ret (pe_ifExp (pt_val (pe_callB call_isiT (by rfl) T.m_isinstance (by decide +kernel) (pa_cons (pv 0) (pa_cons (pe_tup (pa_cons (pe_bltn (v := .ty "list") (by rfl) T.m_list (by decide +kernel) rfl) (pa_cons (pe_bltn (v := .ty "tuple") (by rfl) T.m_tuple (by decide +kernel) rfl) pa_nil))) pa_nil)))) (pe_lc (own := [("_law_one", 1)]) (g := (gName 1)) (tt := tYes) (te := (tCall (sp__law_lists K n) [] E0 (tCons (tVar 1) tNil))) (by rfl) sc__law_lists.nd (pi_seq (pv 0)) (blkOk_by (own := [("_law_one", 1)]) (N := ["_law_thing", "_law_one"]) (sc := defScope s__law_lists) (by decide +kernel)) (fun _ _ _ _ _ => (pg_name (i := 1) sc__law_lists.nd rfl (by first | exact Or.inl rfl | exact Or.inr rfl))) (fun _ _ _ _ _ => pts_nil) (fun _ _ _ _ _ => (pe_call ih hr (by rfl) T.g__law_lists T.F__law_lists.kp T.b__law_lists .nil pass0 (pa_cons (pv 1) pa_nil)))) (pv 0)))), ?_⟩
      simp [tSeq, tAsg, tIf, tIfS, tVar, tC, tOp, tUn, rI, rI0, rU, tCB, tCons, tNil, tLst, tTup, tRet, gName, gCons, gNil, gSub, rSetL, tTest, tB, tNot, tAnd, tOr, tAndV, tOrV, tNotV, tNext, tDrop, tCall, tCallK, gKbV, tSl, tNoPart, tPart, tPar, rEq, rNe, tLc_eq, tFor_eq, iRng1, L2.start, cxOf, Cx.nox]
      have s2 : 2 ≤ sizeLine := by rw [sizeLine_eq]; decide
      refine ⟨s2, fun p np => isi2 upd_same (Dp.same (Same.new np) hx) (kb_lst d) (kb_tpl d) ?_⟩
      have sp := Same.new (o := .tup [V.ty "list", V.ty "tuple"]) np
      have hx1 := Dp.same sp hx
      generalize upd H p (.tup [V.ty "list", V.ty "tuple"]) = H1 at sp hx1
      clear np hx
      have seqs : ∀ (a : Addr) (xs : List V) (ds : List PyData), x = .ref a → (SqL K H1 a xs ∨ SqT K H1 a xs) → DpAll K H1 xs ds → Deep n (.list ds) → listy d = .list (listys ds) → iSeq K (tVar 0) [some x, none] H1 fun J H1 => LcK J (gName 1) tYes (tCall (sp__law_lists K n) [] E0 (tCons (tVar 1) tNil)) [1] [some x, none] H1 Q := by
        intro a xs ds ex hs ha hdd el
        subst ex
        have lx := DpAll.len ha
        cases n with
        | zero => exact hdd.elim
        | succ n =>
        obtain ⟨hd1, hd2⟩ := hdd
        refine walk_any rfl hs fun J wk => lcK wk (Plist K H1 ds) (fun D nD => ⟨[], mask_into nD (Same.new nD), upd_same, rfl, .nil⟩) (fun D i H' _ h => h.elim fun _ h => mask_to h.1) (fun D i y Ha Hb nD hi hp hy => ?_) (fun D Hg nD hp => ?_)
        · obtain ⟨vs, s1, eD, lv, dv⟩ := hp
          obtain ⟨rfl, hy'⟩ := hy
          obtain ⟨dy, e1, h1⟩ := DpAll.at ha hy'
          simp [tSeq, tAsg, tIf, tIfS, tVar, tC, tOp, tUn, rI, rI0, rU, tCB, tCons, tNil, tLst, tTup, tRet, gName, gCons, gNil, gSub, rSetL, tTest, tB, tNot, tAnd, tOr, tAndV, tOrV, tNotV, tNext, tDrop, tCall, tCallK, gKbV, tSl, tNoPart, tPart, tPar, rEq, rNe, tLc_eq, tFor_eq, iRng1, L2.start, cxOf, Cx.nox, wipe, tYes]
          refine ⟨y, dy, rfl, Dp.same (mask_to s1) h1, hd2 _ (List.mem_of_getElem? e1), fun v H' sH dv' => ?_⟩
          have nb : ∀ {b : Addr}, Hb b = none → H1 b = none := fun {b} e => by
            cases z : H1 b with
            | none => rfl
            | some u => rw [mask_to s1 b u z] at e; cases e
          refine ⟨vs, sH _ _ eD, by rw [sizeLine_eq]; omega, vs ++ [v], ?_, upd_same, by simp [lv], ?_⟩
          · rw [mask_upd]; exact s1.trans (mask_on sH)
          · rw [take_at e1, List.map_append]
            refine Rp.DpAll.snoc (Rp.DpAll.same (fun b o e => ?_) dv) (Dp.same (fun b o e => ?_) dv')
            · by_cases bD : b = D
              · rw [bD] at e; simp [mask] at e
              · rw [mask_ne bD] at e ⊢
                obtain ⟨g1, g2⟩ := news_some e
                rw [news_at g1, upd_ne bD]; exact sH _ _ g2
            · obtain ⟨g1, g2⟩ := news_some e
              have bD : b ≠ D := fun z => by rw [z, eD] at g1; cases g1
              rw [mask_ne bD, news_at (nb g1), upd_ne bD]; exact g2
        · obtain ⟨vs, s1, eD, lv, dv⟩ := hp
          rw [lx, List.take_length] at dv
          refine q (.ref D) Hg (sp.trans (mask_to s1)) ?_
          rw [el, listys_eq]
          exact Dp.same (news_on sp) (.lst (.inl (.inl (by rw [news_at nD]; exact eD))) (Rp.DpAll.same (mask_same D _) dv))
      cases d with
      | none => cases hx1; exact .inl ⟨rfl, q _ _ sp .non⟩
      | bool b => cases hx1; exact .inl ⟨rfl, q _ _ sp (.bl b)⟩
      | int i => cases hx1; exact .inl ⟨rfl, q _ _ sp (.int i)⟩
      | str z => cases hx1; exact .inl ⟨rfl, q _ _ sp (.str z)⟩
      | dict kvs => cases hx1
      | list ds =>
        refine .inr ⟨rfl, ?_⟩
        cases hx1 with
        | lst hs ha => exact seqs _ _ _ rfl (.inl hs) ha hd (by simp [listy])
      | tuple ds =>
        refine .inr ⟨rfl, ?_⟩
        cases hx1 with
        | tup hs ha => exact seqs _ _ _ rfl (.inr hs) ha (by cases n <;> exact hd) (by simp [listy])
end
theorem sc__law_least : FnScope ["_law_lots", "_law_some", "_law_found", "_law_lot", "_law_other"] ["_law_lots"] (defScope s__law_least) := ⟨rfl, rfl, rfl, by decide +kernel, rfl, by decide +kernel, by decide +kernel⟩
section
variable {P : Program} {w : World} {K : PySem.W.Frag} {mg : Str → Option Value} {base : Heap}
def sp__law_least (K : PySem.W.Frag) : Sp := fun vs H Q _ => ∃ (v : V) (ls : List (List Str)), vs = [v] ∧ Dp K H v (llD ls) ∧ ls.length < 60 ∧ (∀ z ∈ ls, z.length < 60 ∧ okT z) ∧
  ∀ (ls' : List (List Str)) (v' : V) (H' : Hp), Same H H' → Dp K (news H H') v' (lotsD ls') → ls'.length < 64 → (∀ z ∈ ls', ∃ y ∈ ls, z.Perm y) → Q v' H'
def Psome (H : Hp) (ls : List (List Str)) (D : Addr) (i : Nat) (H' : Hp) : Prop := ∃ as : List (Addr × List Str), Same H (mask D H') ∧ H' D = some (.lst (as.map fun p => V.ref p.1)) ∧ as.length = i ∧ (∀ p ∈ as, H p.1 = none ∧ H' p.1 = some (.tup (p.2.map V.str))) ∧ ∀ p ∈ as, ∃ y ∈ ls, p.2.Perm y
def Pfnd (H : Hp) (as : List (Addr × List Str)) (D : Addr) (i : Nat) (H' : Hp) : Prop := Same H H' ∧ H' D = some (.lst (((as.take i).filter fun p => !hasIn (as.map (·.2)) p.2).map fun p => V.ref p.1))
def Pinn (H : Hp) (as : List (Addr × List Str)) (z : List Str) (D : Addr) (i : Nat) (H' : Hp) : Prop := Same H H' ∧ H' D = some (.lst ((as.take i).map fun q => V.bl (!decide (q.2 = z) && inAll q.2 z)))
theorem ok__law_least (T : Txt K mg) : FnOk P w K mg base CX0 3 T.f__law_least T.fd__law_least ["_law_lots"] (sp__law_least K) := by
  refine T.F__law_least.ok sc__law_least (fun vs H Q E h => ?_) (fun cdv A outer s H vs Q E hr h => ?_)
  · obtain ⟨v, ls, rfl, _⟩ := h
    rfl
  · obtain ⟨v, ls, rfl, hd, hl, hz, q⟩ := h
    cases hd with
    | @lst a xs _ sa da =>
    have lx := DpAll.len da
    rw [List.length_map] at lx
    refine ⟨_, (pss_cons (ps_set (i := 1) sc__law_least.nd rfl (by first | exact Or.inl rfl | exact Or.inr rfl) (pe_lc (own := [("_law_lot", 3)]) (g := (gName 3)) (tt := tYes) (te := (tCB (rTupOf K) (tCons (tCB (rSortedS K) (tCons (tVar 3) tNil)) tNil))) (by rfl) sc__law_least.nd (pi_seq (pv 0)) (blkOk_by (own := [("_law_lot", 3)]) (N := ["_law_lots", "_law_some", "_law_found", "_law_lot", "_law_other"]) (sc := defScope s__law_least) (by decide +kernel)) (fun _ _ _ _ _ => (pg_name (i := 3) sc__law_least.nd rfl (by first | exact Or.inl rfl | exact Or.inr rfl))) (fun _ _ _ _ _ => pts_nil) (fun _ _ _ _ _ => (pe_callTy call_tuple_of (by rfl) T.m_tuple (by decide +kernel) (pa_cons (pe_callB cr_sortedS (by rfl) T.m_sorted (by decide +kernel) (pa_cons (pv 3) pa_nil)) pa_nil)))))
      (pss_cons (ps_setLc (i := 2) (own := [("_law_lot", 3)]) (g := (gName 3)) (tt := (tNot (tB (tCB (rAny K) (tCons (tLc (iSeq K (tVar 1)) (gName 4) tYes (tAndV (tOp (rNeD K) (tVar 4) (tVar 3)) (tCall (sp__law_in K) [] E0 (tCons (tVar 4) (tCons (tVar 3) tNil)))) [4]) tNil))))) (te := (tVar 3)) (by rfl) sc__law_least.nd rfl rfl (sw_true rfl rfl rfl (by decide +kernel)) (pi_seq (pv 1)) (blkOk_by (own := [("_law_lot", 3)]) (N := ["_law_lots", "_law_some", "_law_found", "_law_lot", "_law_other"]) (sc := defScope s__law_least) (by decide +kernel)) (fun _ _ _ _ _ => (pg_name (i := 3) sc__law_least.nd rfl (by first | exact Or.inl rfl | exact Or.inr rfl))) (fun _ _ _ _ _ => (pts_one (pt_not (pt_val (pe_callB (cr_any rfl) (by rfl) T.m_any (by decide +kernel) (pa_cons (pe_lc (own := [("_law_other", 4)]) (g := (gName 4)) (tt := tYes) (te := (tAndV (tOp (rNeD K) (tVar 4) (tVar 3)) (tCall (sp__law_in K) [] E0 (tCons (tVar 4) (tCons (tVar 3) tNil))))) (by rfl) sc__law_least.nd (pi_seq (pv 1)) (blkOk_by (own := [("_law_other", 4)]) (N := ["_law_lots", "_law_some", "_law_found", "_law_lot", "_law_other"]) (sc := { kind := .function, names := [(Str.ofString ".0", .local), (Str.ofString "_law_lot", .cell), (Str.ofString "any", .globalImplicit), (Str.ofString "_law_some", .cell)], isGenerator := false, isCoroutine := false }) (by decide +kernel)) (fun _ _ _ _ _ => (pg_name (i := 4) sc__law_least.nd rfl (by first | exact Or.inl rfl | exact Or.inr rfl))) (fun _ _ _ _ _ => pts_nil) (fun _ _ _ _ _ => (pe_and (pe_cmpR (op_neD hr.units) (pv 4) (pv 3) (nomark _)) (pe_one (pe_call (ok__law_in T) (hr.mono (by decide)) (by rfl) T.g__law_in T.F__law_in.kp T.b__law_in .nil pass0 (pa_cons (pv 4) (pa_cons (pv 3) pa_nil))))))) pa_nil)))))) (fun _ _ _ _ _ => (pv 3)))
      (pss_one (ps_ret (pe_callTy call_tuple_of (by rfl) T.m_tuple (by decide +kernel) (pa_cons (pe_callB (cr_sortTx rfl hr.units) (by rfl) T.m_sorted (by decide +kernel) (pa_cons (pe_callTy (cr_setTx rfl hr.units) (by rfl) T.m_set (by decide +kernel) (pa_cons (pv 2) pa_nil)) pa_nil)) pa_nil)))))), ?_⟩
    simp [tSeq, tAsg, tIf, tIfS, tVar, tC, tOp, tUn, rI, rI0, rU, tCB, tCons, tNil, tLst, tTup, tRet, gName, gCons, gNil, gSub, rSetL, tTest, tB, tNot, tAnd, tOr, tAndV, tOrV, tNotV, tNext, tDrop, tCall, tCallK, gKbV, tSl, tNoPart, tPart, tPar, rEq, rNe, tLc_eq, tFor_eq, iRng1, L2.start, cxOf, Cx.nox]
    refine walk_any rfl (.inl sa) fun J wk => lcK wk (Psome H ls) (fun D nD => ⟨[], mask_into nD (Same.new nD), upd_same, rfl, fun _ h => (by cases h), fun _ h => (by cases h)⟩) (fun D i H' _ h => h.elim fun _ h => mask_to h.1) (fun D i x Ha Hb nD hi hp hy => ?_) (fun D Hg nD hp => ?_)
    · obtain ⟨as, s1, eD, lv, ht, hpm⟩ := hp
      obtain ⟨rfl, hx'⟩ := hy
      obtain ⟨dx, e1, h1⟩ := DpAll.at da hx'
      rw [List.getElem?_map] at e1
      obtain ⟨z, ez, rfl⟩ := Option.map_eq_some_iff.mp e1
      obtain ⟨hz1, hz2⟩ := hz z (List.mem_of_getElem? ez)
      cases h1 with
      | @lst c ys _ sc dc =>
      have eys := strs_all dc (z := z) (by rw [List.map_map]; congr 1)
      subst eys
      simp [tSeq, tAsg, tIf, tIfS, tVar, tC, tOp, tUn, rI, rI0, rU, tCB, tCons, tNil, tLst, tTup, tRet, gName, gCons, gNil, gSub, rSetL, tTest, tB, tNot, tAnd, tOr, tAndV, tOrV, tNotV, tNext, tDrop, tCall, tCallK, gKbV, tSl, tNoPart, tPart, tPar, rEq, rNe, tLc_eq, tFor_eq, iRng1, L2.start, cxOf, Cx.nox, wipe, tYes]
      refine ⟨c, z, rfl, (mask_to s1).seq sc, by omega, fun ys p1 pm _ n1 => ?_⟩
      have p1D : p1 ≠ D := fun e => by rw [e, eD] at n1; cases n1
      refine ⟨p1, _, rfl, .inl ⟨.inl (.inl upd_same), fun p2 n2 => ?_⟩⟩
      have m1 := Same.new (o := .lst (ys.map V.str)) n1
      have m2 := Same.new (o := .tup (ys.map V.str)) n2
      have eD2 := m2 _ _ (m1 _ _ eD)
      have p2D : p2 ≠ D := fun e => by rw [e, m1 _ _ eD] at n2; cases n2
      have fr : H p2 = none := by
        cases e : H p2 with
        | none => rfl
        | some u => rw [m1 _ _ (mask_to s1 _ _ e)] at n2; cases n2
      refine ⟨_, eD2, by rw [List.length_map, sizeLine_eq]; omega, as ++ [(p2, ys)], ?_, by rw [upd_same]; simp, by simp [lv], ?_, ?_⟩
      · rw [mask_upd]; exact s1.trans (mask_on (m1.trans m2))
      · intro p hp
        rcases List.mem_append.mp hp with h | h
        · obtain ⟨g1, g2⟩ := ht p h
          refine ⟨g1, ?_⟩
          have g3 := m2 _ _ (m1 _ _ g2)
          rw [upd_ne (fun e => by rw [e, eD2] at g3; cases g3)]; exact g3
        · rw [List.mem_singleton.mp h]
          exact ⟨fr, by rw [upd_ne p2D]; exact upd_same⟩
      · intro p hp
        rcases List.mem_append.mp hp with h | h
        · exact hpm p h
        · rw [List.mem_singleton.mp h]
          exact ⟨z, List.mem_of_getElem? ez, pm⟩
    · obtain ⟨as, s1, eD, lv, ht, hpm⟩ := hp
      have ok : ∀ p ∈ as, okT p.2 := fun p hp x hx => by
        obtain ⟨y, hy, pm⟩ := hpm p hp
        exact (hz y hy).2 x (pm.mem_iff.mp hx)
      have lz : ∀ p ∈ as, p.2.length < 60 := fun p hp => by
        obtain ⟨y, hy, pm⟩ := hpm p hp
        rw [pm.length_eq]; exact (hz y hy).1
      refine walk_any rfl (.inl (.inl (.inl eD))) fun J wk => lcK wk (Pfnd Hg as) (fun D nD => ⟨Same.new nD, upd_same⟩) (fun D i H' _ h => h.1) (fun D2 i x Ha Hb nD2 hi hp hy => ?_) (fun D2 He nD2 hp => ?_)
      · obtain ⟨sH, eF⟩ := hp
        obtain ⟨rfl, hx'⟩ := hy
        rw [List.getElem?_map] at hx'
        obtain ⟨p, ep, rfl⟩ := Option.map_eq_some_iff.mp hx'
        have pm := List.mem_of_getElem? ep
        simp [tSeq, tAsg, tIf, tIfS, tVar, tC, tOp, tUn, rI, rI0, rU, tCB, tCons, tNil, tLst, tTup, tRet, gName, gCons, gNil, gSub, rSetL, tTest, tB, tNot, tAnd, tOr, tAndV, tOrV, tNotV, tNext, tDrop, tCall, tCallK, gKbV, tSl, tNoPart, tPart, tPar, rEq, rNe, tLc_eq, tFor_eq, iRng1, L2.start, cxOf, Cx.nox, wipe]
        refine walk_any rfl (.inl (.inl (.inl (sH _ _ eD)))) fun J2 wk2 => lcK wk2 (Pinn Hb as p.2) (fun D nD => ⟨Same.new nD, upd_same⟩) (fun D i H' _ h => h.1) (fun D3 j x3 Hc Hd nD3 hj hp3 hy3 => ?_) (fun D3 Hc nD3 hp3 => ?_)
        · obtain ⟨s3, e3⟩ := hp3
          obtain ⟨rfl, hx3⟩ := hy3
          rw [List.getElem?_map] at hx3
          obtain ⟨p3, ep3, rfl⟩ := Option.map_eq_some_iff.mp hx3
          have pm3 := List.mem_of_getElem? ep3
          simp [tSeq, tAsg, tIf, tIfS, tVar, tC, tOp, tUn, rI, rI0, rU, tCB, tCons, tNil, tLst, tTup, tRet, gName, gCons, gNil, gSub, rSetL, tTest, tB, tNot, tAnd, tOr, tAndV, tOrV, tNotV, tNext, tDrop, tCall, tCallK, gKbV, tSl, tNoPart, tPart, tPar, rEq, rNe, tLc_eq, tFor_eq, iRng1, L2.start, cxOf, Cx.nox, wipe, tYes]
          have toT : ∀ q ∈ as, SqT K Hd q.1 (q.2.map V.str) := fun q hq => .inl (.inl (s3 _ _ (sH _ _ (ht q hq).2)))
          refine ⟨_, _, dp_tx (toT _ pm3), dp_tx (toT _ pm), shaped_tx (ok _ pm3), shaped_tx (ok _ pm), ?_⟩
          rw [eqv_tx]
          have st : (as.take (j + 1)).map (fun q => V.bl (!decide (q.2 = p.2) && inAll q.2 p.2)) = (as.take j).map (fun q => V.bl (!decide (q.2 = p.2) && inAll q.2 p.2)) ++ [V.bl (!decide (p3.2 = p.2) && inAll p3.2 p.2)] := by
            rw [take_at ep3, List.map_append]; rfl
          by_cases he : p3.2 = p.2
          · refine .inl ⟨by simp [he], _, e3, by rw [List.length_map, List.length_take, sizeLine_eq]; omega, fun c u e => by rw [upd_ne (ne_of_none e nD3)]; exact s3 _ _ e, ?_⟩
            rw [upd_same, st]; simp [he]
          · refine .inr ⟨by simp [he], p3.1, p.1, p3.2, p.2, rfl, .inr (toT _ pm3), .inr (toT _ pm), by have := lz _ pm3; omega, fun H' s4 => ?_⟩
            refine ⟨_, s4 _ _ e3, by rw [List.length_map, List.length_take, sizeLine_eq]; omega, fun c u e => by rw [upd_ne (ne_of_none e nD3)]; exact s4 _ _ (s3 _ _ e), ?_⟩
            rw [upd_same, st]; simp [he]
        · obtain ⟨s3, e3⟩ := hp3
          rw [List.length_map, List.take_length] at e3
          refine ⟨D3, as.map fun q => (!decide (q.2 = p.2) && inAll q.2 p.2), rfl, .inl (.inl (by rw [e3, List.map_map]; rfl)), ?_⟩
          have eh : ((as.map fun q => (!decide (q.2 = p.2) && inAll q.2 p.2)).any id) = hasIn (as.map (·.2)) p.2 := by
            simp [hasIn, List.any_map, Function.comp_def]
          rw [eh]
          have st : ((as.take (i + 1)).filter fun p => !hasIn (as.map (·.2)) p.2) = ((as.take i).filter fun p => !hasIn (as.map (·.2)) p.2) ++ (if hasIn (as.map (·.2)) p.2 then [] else [p]) := by
            rw [take_at ep, List.filter_append]
            congr 1
            cases hb : hasIn (as.map (·.2)) p.2 <;> simp [List.filter_cons, hb]
          have fl : ((as.take i).filter fun p => !hasIn (as.map (·.2)) p.2).length ≤ as.length := Nat.le_trans (List.length_filter_le _ _) (by rw [List.length_take]; omega)
          cases hh : hasIn (as.map (·.2)) p.2 with
          | false =>
            refine .inl ⟨rfl, _, s3 _ _ eF, by rw [List.length_map, sizeLine_eq]; omega, fun c u e => by rw [upd_ne (ne_of_none e nD2)]; exact s3 _ _ (sH _ _ e), ?_⟩
            rw [upd_same, st, hh]; simp
          | true =>
            refine .inr ⟨rfl, sH.trans s3, ?_⟩
            rw [s3 _ _ eF, st, hh]; simp
      · obtain ⟨sH, eF⟩ := hp
        rw [List.length_map, List.take_length] at eF
        have fl : (as.filter fun p => !hasIn (as.map (·.2)) p.2).length ≤ as.length := List.length_filter_le _ _
        have fin : ∀ p ∈ as.filter (fun p => !hasIn (as.map (·.2)) p.2), p ∈ as ∧ hasIn (as.map (·.2)) p.2 = false := fun p hp => by simpa using List.mem_filter.mp hp
        generalize as.filter (fun p => !hasIn (as.map (·.2)) p.2) = fs at eF fl fin
        refine ⟨D2, fs, rfl, .inl (.inl eF), fun p hp => .inl (.inl (sH _ _ (ht p (fin p hp).1).2)), by omega, fun S L nS hL1 hL2 hL3 => ?_⟩
        have sS := Same.new (o := SetTxO P w S L) nS
        have lfin : ∀ p ∈ L, p ∈ as ∧ hasIn (as.map (·.2)) p.2 = false := fun p hp => fin p (hL1 p hp)
        refine ⟨S, L, rfl, upd_same, fun p hp => .inl (.inl (sS _ _ (sH _ _ (ht p (lfin p hp).1).2))), ?_, fun M R pM lM nR => ?_⟩
        · rcases Classical.em ([] ∈ L.map (·.2)) with c | c
          · left
            obtain ⟨p0, hp0, e0⟩ := List.mem_map.mp c
            have hn : ([] : List Str) ∈ as.map (·.2) := List.mem_map.mpr ⟨p0, (lfin p0 hp0).1, e0⟩
            have al : ∀ z ∈ L.map (·.2), z = [] := fun z hz => by
              obtain ⟨p, hp, rfl⟩ := List.mem_map.mp hz
              exact minNil hn (lfin p hp).2
            rw [← List.length_map (f := (·.2))]
            generalize L.map (·.2) = Z at hL3 al
            match Z, hL3, al with
            | [], _, _ => decide
            | [x], _, _ => exact Nat.lt_succ_self 1
            | x :: y :: Z, nd, al =>
              exfalso
              have e1 := al x List.mem_cons_self
              have e2 := al y (List.mem_cons_of_mem _ List.mem_cons_self)
              rw [e1, e2] at nd
              exact (List.nodup_cons.mp nd).1 List.mem_cons_self
          · right
            intro p hp e
            exact c (List.mem_map.mpr ⟨p, hp, e⟩)
        · have sR := Same.new (o := .lst ((srtT M).map fun p => V.ref p.1)) nR
          refine ⟨R, rfl, _, .inl ⟨.inl (.inl upd_same), fun l nl => ?_⟩⟩
          have sl := Same.new (o := .tup ((srtT M).map fun p => V.ref p.1)) nl
          have all := sH.trans (sS.trans (sR.trans sl))
          have tot := (mask_to s1).trans all
          have hl0 : H l = none := by
            cases e : H l with
            | none => rfl
            | some u => rw [((mask_to s1).trans (sH.trans (sS.trans sR))) _ _ e] at nl; cases nl
          have mem : ∀ p ∈ srtT M, p ∈ as := fun p hp => (lfin p (pM.mem_iff.mp ((List.mergeSort_perm _ _).mem_iff.mp hp))).1
          refine q ((srtT M).map (·.2)) (.ref l) _ tot (.tup (.inl (.inl (by rw [news_at hl0]; exact upd_same))) ?_) (by rw [List.length_map, List.length_mergeSort]; exact lM) (fun z hz => ?_)
          · have al2 := all
            generalize upd (upd (upd He S (SetTxO P w S L)) R (.lst ((srtT M).map fun p => V.ref p.1))) l (.tup ((srtT M).map fun p => V.ref p.1)) = HZ at al2
            generalize srtT M = Z at mem
            clear tot sl all sR
            induction Z with
            | nil => exact .nil
            | cons p Z ih =>
              refine .cons (dp_tx (.inl (.inl ?_))) (ih fun p hp => mem p (List.mem_cons_of_mem _ hp))
              obtain ⟨g1, g2⟩ := ht p (mem p List.mem_cons_self)
              rw [news_at g1]; exact al2 _ _ g2
          · obtain ⟨p, hp, rfl⟩ := List.mem_map.mp hz
            exact hpm p (mem p hp)
end
theorem sc__law_pairs : FnScope ["_law_tape_here", "_law_names_here", "_law_found", "_law_k", "_law_plum", "_law_lots", "_law_turn", "_law_some"] ["_law_tape_here", "_law_names_here"] (defScope s__law_pairs) := ⟨rfl, rfl, rfl, by decide +kernel, rfl, by decide +kernel, by decide +kernel⟩
section
variable {P : Program} {w : World} {K : PySem.W.Frag} {mg : Str → Option Value} {base : Heap}
def sp__law_pairs (K : PySem.W.Frag) : Sp := fun vs H Q _ => ∃ (t a : Addr) (zs : List Str) (n : Nat), vs = [.ref t, .ref a] ∧ TapeAt H t n ∧ n ≤ 80000000 ∧ H a = some (.lst (zs.map V.str)) ∧ zs.length ≤ 26 ∧
  ∀ (ps : List (Str × List (List Str))) (v : V) (H' : Hp), ps.map (·.1) = zs → (∀ p ∈ ps, p.2.length ≤ 3 ∧ ∀ z ∈ p.2, z.length ≤ 26 ∧ ∀ x ∈ z, x ∈ zs) → TapeAt H' t (n + 20 * zs.length) → Ext t H H' → Dp K (hid [t] H') v (.list (ps.map prD)) → Q v H'
def Ppair (K : PySem.W.Frag) (H : Hp) (t a D : Addr) (zs : List Str) (n : Nat) (i : Nat) (σ : L2.St) (H' : Hp) : Prop := ∃ (y3 y4 y5 y6 y7 : Option V) (ps : List (Str × List (List Str))) (vs : List V),
  σ = [some (.ref t), some (.ref a), some (.ref D), y3, y4, y5, y6, y7] ∧ ps.map (·.1) = zs.take i ∧ (∀ p ∈ ps, p.2.length ≤ 3 ∧ ∀ z ∈ p.2, z.length ≤ 26 ∧ ∀ x ∈ z, x ∈ zs) ∧ TapeAt H' t (n + 20 * i) ∧ Ext t H H' ∧ H' D = some (.lst vs) ∧ vs.length = i ∧ DpAll K (hid [D, t] H') vs (ps.map prD)
def Plot (K : PySem.W.Frag) (H : Hp) (t a D L : Addr) (zs : List Str) (n k : Nat) (f : Str) (vs : List V) (ds : List PyData) (i : Nat) (σ : L2.St) (H' : Hp) : Prop := ∃ (y6 y7 : Option V) (ls : List (List Str)) (ws : List V),
  σ = [some (.ref t), some (.ref a), some (.ref D), some (.int k), some (.str f), some (.ref L), y6, y7] ∧ ls.length = i ∧ (∀ z ∈ ls, z.length ≤ 26 ∧ ∀ x ∈ z, x ∈ zs) ∧ TapeAt H' t (n + 6 * i) ∧ Ext t H H' ∧ H' D = some (.lst vs) ∧ H' L = some (.lst ws) ∧ ws.length = i ∧ DpAll K (hid [L, D, t] H') vs ds ∧ DpAll K (hid [L, D, t] H') ws (ls.map liD)
theorem ok__law_pairs (T : Txt K mg) : FnOk P w K mg base CX0 3 T.f__law_pairs T.fd__law_pairs ["_law_tape_here", "_law_names_here"] (sp__law_pairs K) := by
  refine T.F__law_pairs.ok sc__law_pairs (fun vs H Q E h => ?_) (fun cdv A outer s H vs Q E hr h => ?_)
  · obtain ⟨t, a, zs, n, rfl, _⟩ := h
    rfl
  · obtain ⟨t, a, zs, n, rfl, hT, hn, ha, hz, q⟩ := h
    refine ⟨_, (pss_cons (ps_set (i := 2) sc__law_pairs.nd rfl (by first | exact Or.inl rfl | exact Or.inr rfl) (pe_lst pa_nil))
      (pss_cons (ps_for PassesOwn.never rfl (pi_enum (by rfl) T.m_enumerate (pa_cons (pv 1) pa_nil)) (pg_tup rfl (pgs_cons (pg_name (i := 3) sc__law_pairs.nd rfl (by first | exact Or.inl rfl | exact Or.inr rfl)) (pgs_cons (pg_name (i := 4) sc__law_pairs.nd rfl (by first | exact Or.inl rfl | exact Or.inr rfl)) pgs_nil)))
      (pss_cons (ps_set (i := 5) sc__law_pairs.nd rfl (by first | exact Or.inl rfl | exact Or.inr rfl) (pe_lst pa_nil))
      (pss_cons (ps_for PassesOwn.never rfl (pi_range1 (by rfl) T.m_range (pa_cons (pe_ix ix_list (pe_lst (pa_cons pe_int (pa_cons pe_int (pa_cons pe_int (pa_cons pe_int (pa_cons pe_int (pa_cons pe_int (pa_cons pe_int (pa_cons pe_int (pa_cons pe_int (pa_cons pe_int pa_nil))))))))))) (pe_call (ok__law_draw T) (hr.mono (by decide)) (by rfl) T.g__law_draw T.F__law_draw.kp T.b__law_draw .nil pass0 (pa_cons (pv 0) (pa_cons pe_int pa_nil))) (fun _ _ => rfl)) pa_nil)) (pg_name (i := 6) sc__law_pairs.nd rfl (by first | exact Or.inl rfl | exact Or.inr rfl))
      (pss_cons (ps_set (i := 7) sc__law_pairs.nd rfl (by first | exact Or.inl rfl | exact Or.inr rfl) (pe_ifExp (pt_cmpR op_gt (pe_call (ok__law_draw T) (hr.mono (by decide)) (by rfl) T.g__law_draw T.F__law_draw.kp T.b__law_draw .nil pass0 (pa_cons (pv 0) (pa_cons pe_int pa_nil))) pe_int (nomark _)) (pe_slice sl_list (pv 1) po_none (po_some (pv 3))) (pe_op op_cat (pe_slice sl_list (pv 1) po_none (po_some (pv 3))) (pe_slice sl_list (pv 1) (po_some (pe_op op_add (pv 3) pe_int)) po_none))))
      (pss_one (ps_expr (pe_bm PySem.F.plainAttrs_list PySem.F.slot_list_append PySem.F.type_list_append mt_append (pv 5) (pa_cons (pe_call (ok__law_part T) (hr.mono (by decide)) (by rfl) T.g__law_part T.F__law_part.kp T.b__law_part .nil pass0 (pa_cons (pv 0) (pa_cons (pv 7) (pa_cons (pe_call (ok__law_draw T) (hr.mono (by decide)) (by rfl) T.g__law_draw T.F__law_draw.kp T.b__law_draw .nil pass0 (pa_cons (pv 0) (pa_cons pe_int pa_nil))) pa_nil)))) pa_nil))))))
      (pss_one (ps_expr (pe_bm PySem.F.plainAttrs_list PySem.F.slot_list_append PySem.F.type_list_append mt_append (pv 2) (pa_cons (pe_tup (pa_cons (pv 4) (pa_cons (pv 5) pa_nil))) pa_nil)))))))
      (pss_one (ps_ret (pv 2))))), ?_⟩
    simp [tSeq, tAsg, tIf, tIfS, tVar, tC, tOp, tUn, rI, rI0, rU, tCB, tCons, tNil, tLst, tTup, tRet, gName, gCons, gNil, gSub, rSetL, tTest, tB, tNot, tAnd, tOr, tAndV, tOrV, tNotV, tNext, tDrop, tCall, tCallK, gKbV, tSl, tNoPart, tPart, tPar, rEq, rNe, tLc_eq, tFor_eq, iRng1, L2.start, cxOf, Cx.nox]
    intro D nD
    have ntp : ∀ {X : Hp} {q : Addr} {j : Nat}, TapeAt X t j → X q = none → q ≠ t := fun h e z => by
      obtain ⟨a, b, c, h, _⟩ := h
      rw [z, h] at e; cases e
    have at_ : a ≠ t := fun z => by
      obtain ⟨x, y, c, h, _⟩ := hT
      rw [← z, ha] at h
      rcases zs with _ | ⟨u, zs⟩
      · cases h
      · cases h
    have Dt := ntp hT nD
    have aD : a ≠ D := fun z => by rw [z, nD] at ha; cases ha
    refine ⟨.ref a, rfl, a, _, rfl, .inl (.inl (by rw [upd_ne aD]; exact ha)), ?_⟩
    refine frK (walk_enum (xs := zs.map V.str)) (Ppair K H t a D zs n) ⟨none, none, none, none, none, [], [], rfl, rfl, (fun _ h => (by cases h)), hT.new nD, Ext.new nD, upd_same, rfl, .nil⟩ (fun i σ H' _ h => ?_) (fun i x σ H1 H2 hi hp hy => ?_) (fun σ H' hp => ?_)
    · obtain ⟨y3, y4, y5, y6, y7, ps, vs, rfl, e1, e2, e3, e4, e5, e6, e7⟩ := h
      exact .inl (.inl (e4 _ _ at_ ha))
    · obtain ⟨y3, y4, y5, y6, y7, ps, vs, rfl, e1, e2, e3, e4, e5, e6, e7⟩ := hp
      obtain ⟨T1, x1, x2, rfl, nT, rfl, ex1, ex2⟩ := hy
      have ex1 : V.int i = x1 := Option.some.inj ex1
      subst ex1
      dsimp only at ex2
      obtain ⟨f, ef, rfl⟩ := strs_at ex2
      refine gTup2 (.inl (.inl upd_same)) ?_
      have mT := Same.new (o := .tup [V.int i, V.str f]) nT
      have T2 := e3.new (o := .tup [V.int i, V.str f]) nT
      have x2 := e4.trans (Ext.of (t := t) mT)
      have f2 := mT _ _ e5
      have dv2 : DpAll K (hid [D, t] (upd H1 T1 (.tup [V.int i, V.str f]))) vs (ps.map prD) := Rp.DpAll.same (hid_on fun b o _ e => mT _ _ e) e7
      generalize upd H1 T1 (.tup [V.int i, V.str f]) = Hx at T2 x2 f2 dv2
      clear mT nT e3 e4 e5 e7
      simp [tSeq, tAsg, tIf, tIfS, tVar, tC, tOp, tUn, rI, rI0, rU, tCB, tCons, tNil, tLst, tTup, tRet, gName, gCons, gNil, gSub, rSetL, tTest, tB, tNot, tAnd, tOr, tAndV, tOrV, tNotV, tNext, tDrop, tCall, tCallK, gKbV, tSl, tNoPart, tPart, tPar, rEq, rNe, tLc_eq, tFor_eq, iRng1, L2.start, cxOf, Cx.nox]
      intro L nL
      have szl : ∀ k : Nat, k ≤ 1000 → k ≤ sizeLine := fun k h => by rw [sizeLine_eq]; omega
      have il : i < zs.length := by rw [List.length_map] at hi; exact hi
      have Lt := ntp T2 nL
      have LD : L ≠ D := fun z => by rw [z, f2] at nL; cases nL
      have mL := Same.new (o := .lst []) nL
      refine ⟨szl _ (by decide), fun p np => ?_⟩
      have mp := Same.new (o := .lst [V.int 1, V.int 1, V.int 2, V.int 3, V.int 1, V.int 2, V.int 1, V.int 1, V.int 2, V.int 0]) np
      refine ⟨t, 10, n + 20 * i, rfl, (T2.new nL).new np, by omega, by decide, by decide, fun r Hc r0 r1 Tc kc => ?_⟩
      have pt := ntp (T2.new nL) np
      obtain ⟨m, m3, em⟩ := tenV r0 r1
      refine ixLH (by rw [kc p pt]; exact upd_same) em ⟨m, rfl, by omega, by omega, ?_⟩
      have xc : Ext t Hx Hc := fun b o nb e => by rw [kc b nb]; exact mp _ _ (mL _ _ e)
      have hL : Hc L = some (.lst []) := by rw [kc L Lt]; exact mp _ _ upd_same
      have hD : Hc D = some (.lst vs) := xc _ _ Dt f2
      have dv3 : DpAll K (hid [L, D, t] Hc) vs (ps.map prD) := Rp.DpAll.same (Same.trans (hid_more (c := L) nL) (hid_on fun b o nb e => xc b o (fun z => nb (by simp [z])) e)) dv2
      refine frK walk_range (Plot K H t a D L zs (n + 20 * i + 1) i f vs (ps.map prD)) ⟨_, _, [], [], rfl, rfl, (fun _ h => (by cases h)), Tc, x2.trans xc, hD, hL, rfl, dv3, .nil⟩ (fun _ _ _ _ _ => trivial) (fun j x σ He Hf hj hp hy => ?_) (fun σ He hp => ?_)
      · obtain ⟨rfl, rfl⟩ := hy
        obtain ⟨y6, y7, ls, ws, rfl, g1, g2, g3, g4, g5, g6, g7, g8, g9⟩ := hp
        simp [tSeq, tAsg, tIf, tIfS, tVar, tC, tOp, tUn, rI, rI0, rU, tCB, tCons, tNil, tLst, tTup, tRet, gName, gCons, gNil, gSub, rSetL, tTest, tB, tNot, tAnd, tOr, tAndV, tOrV, tNotV, tNext, tDrop, tCall, tCallK, gKbV, tSl, tNoPart, tPart, tPar, rEq, rNe, tLc_eq, tFor_eq, iRng1, L2.start, cxOf, Cx.nox]
        refine ⟨t, 6, _, rfl, g3, by omega, by decide, by decide, fun r2 Hg r20 r21 Tg kg => ?_⟩
        have hag : Hg a = some (.lst (zs.map V.str)) := by rw [kg a at_]; exact g4 _ _ at_ ha
        have rest : ∀ (so : Addr) (us : List Str) (Hh : Hp), Hh so = some (.lst (us.map V.str)) → us.length ≤ 26 → (∀ x ∈ us, x ∈ zs) → Ext t Hg Hh → TapeAt Hh t (n + 20 * i + 1 + 6 * j + 1) →
            tBM K "list" rAppend (tVar 5) (tCons (tCall (sp__law_part K) [] E0 (tCons (tVar 0) (tCons (tVar 7) (tCons (tCall (sp__law_draw K) [] E0 (tCons (tVar 0) (tCons (tC (V.int 4)) tNil))) tNil)))) tNil)
              [some (.ref t), some (.ref a), some (.ref D), some (.int i), some (.str f), some (.ref L), some (.int j), some (.ref so)] Hh fun _ H1 => Plot K H t a D L zs (n + 20 * i + 1) i f vs (ps.map prD) (j + 1) [some (.ref t), some (.ref a), some (.ref D), some (.int i), some (.str f), some (.ref L), some (.int j), some (.ref so)] H1 := by
          intro so us Hh e1 e2 e3 e4 e5
          have hLh : Hh L = some (.lst ws) := e4 _ _ Lt (by rw [kg L Lt]; exact g6)
          have hDh : Hh D = some (.lst vs) := e4 _ _ Dt (by rw [kg D Dt]; exact g5)
          have sot : so ≠ t := fun z => by
            obtain ⟨x, y, c, h, _⟩ := e5
            rw [← z, e1] at h
            rcases us with _ | ⟨u, us⟩ <;> cases h
          simp [tSeq, tAsg, tIf, tIfS, tVar, tC, tOp, tUn, rI, rI0, rU, tCB, tCons, tNil, tLst, tTup, tRet, gName, gCons, gNil, gSub, rSetL, tTest, tB, tNot, tAnd, tOr, tAndV, tOrV, tNotV, tNext, tDrop, tCall, tCallK, gKbV, tSl, tNoPart, tPart, tPar, rEq, rNe, tLc_eq, tFor_eq, iRng1, L2.start, cxOf, Cx.nox, tBM, rAppend]
          refine ⟨.inl ⟨rfl, _, .inl (.inl hLh)⟩, t, 4, _, rfl, e5, by omega, by decide, by decide, fun r3 Hi r30 r31 Ti ki => ?_⟩
          obtain ⟨k, rfl⟩ : ∃ k : Nat, r3 = k := ⟨r3.toNat, by omega⟩
          refine ⟨t, so, us.map V.str, k, _, rfl, Ti, by omega, .inl (.inl (.inl (by rw [ki so sot]; exact e1))), by rw [List.length_map]; omega, by omega, fun ys rs p' H' pm ly np' T' x' ep' => ?_⟩
          obtain ⟨al, ea, pa⟩ := perm_strs pm
          have hLi : Hi L = some (.lst ws) := by rw [ki L Lt]; exact hLh
          have hDi : Hi D = some (.lst vs) := by rw [ki D Dt]; exact hDh
          have eys : ys = (al.take ys.length).map V.str := by
            rw [List.map_take, ← ea, List.take_left]
          have pL : p' ≠ L := fun z => by rw [z, hLi] at np'; cases np'
          have pD : p' ≠ D := fun z => by rw [z, hDi] at np'; cases np'
          have p't := ntp Ti np'
          have xx : Ext t Hf H' := fun b o nb e => x' b o nb (by rw [ki b nb]; exact e4 b o nb (by rw [kg b nb]; exact e))
          have hs : Same (hid [L, D, t] Hf) (hid [L, D, t] H') := hid_on fun b o nb e => xx b o (fun z => nb (by simp [z])) e
          have ylen : ys.length ≤ 26 := by
            rw [ly, List.length_map]; omega
          refine ⟨ws, x' _ _ Lt hLi, by rw [sizeLine_eq]; omega, _, _, ls ++ [al.take ys.length], ws ++ [.ref p'], rfl, by simp [g1], ?_, ?_, ?_, ?_, upd_same, by simp [g7], ?_, ?_⟩
          · intro z hz'
            rcases List.mem_append.mp hz' with h | h
            · exact g2 z h
            · rw [List.mem_singleton.mp h]
              refine ⟨by rw [List.length_take]; omega, fun x hx => e3 x (pa.mem_iff.mp (List.mem_of_mem_take hx))⟩
          · exact (T'.ext (upd_ne Lt.symm)).mono (by omega)
          · intro b o nb e
            by_cases bL : b = L
            · subst bL
              exfalso
              have := xc b
              have z1 := x2 b o nb e
              rw [nL] at z1; cases z1
            · rw [upd_ne bL]; exact xx b o nb (g4 b o nb e)
          · rw [upd_ne LD.symm]; exact x' _ _ Dt hDi
          · rw [hid_upd (by simp)]; exact Rp.DpAll.same hs g8
          · rw [hid_upd (by simp), List.map_append]
            refine Rp.DpAll.snoc (Rp.DpAll.same hs g9) (.lst (.inl (.inl ?_)) (dpAll_strs _))
            rw [hid_at (by simp [pL, pD, p't]), ep', ← eys]
        refine ⟨r2, rfl, ?_⟩
        have tk : ∀ x ∈ zs.take i, x ∈ zs := fun x hx => List.mem_of_mem_take hx
        by_cases h6 : 0 < r2
        · rw [if_pos h6]
          refine ⟨a, _, rfl, .inl (.inl hag), fun c nc => ?_⟩
          rw [cutV_to, ← List.map_take]
          have sc' := Ext.new (t := t) (o := .lst ((zs.take i).map V.str)) nc
          exact rest c (zs.take i) _ upd_same (by rw [List.length_take]; omega) tk sc' (Tg.new nc)
        · rw [if_neg h6]
          refine ⟨a, _, rfl, .inl (.inl hag), fun c nc => ?_⟩
          rw [cutV_to, ← List.map_take]
          have ac : a ≠ c := fun z => by rw [z, nc] at hag; cases hag
          refine ⟨a, _, rfl, .inl (.inl (by rw [upd_ne ac]; exact hag)), fun c2 nc2 => ?_⟩
          rw [show ((i : Int) + 1) = ((i + 1 : Nat) : Int) by omega, cutV_from, ← List.map_drop]
          have c2c : c ≠ c2 := fun z => by rw [z, ← z, upd_same] at nc2; cases nc2
          refine ⟨c, c2, _, _, rfl, rfl, by rw [upd_ne c2c]; exact upd_same, upd_same, by rw [List.length_map, List.length_map, List.length_take, List.length_drop, sizeLine_eq]; omega, fun c3 nc3 => ?_⟩
          rw [← List.map_append]
          refine rest c3 (zs.take i ++ zs.drop (i + 1)) _ upd_same (by rw [List.length_append, List.length_take, List.length_drop]; omega) (fun x hx => ?_) ((Ext.new nc).trans ((Ext.new nc2).trans (Ext.new nc3))) (((Tg.new nc).new nc2).new nc3)
          rcases List.mem_append.mp hx with h | h
          · exact tk x h
          · exact List.mem_of_mem_drop h
      · obtain ⟨y6, y7, ls, ws, rfl, g1, g2, g3, g4, g5, g6, g7, g8, g9⟩ := hp
        simp [tSeq, tAsg, tIf, tIfS, tVar, tC, tOp, tUn, rI, rI0, rU, tCB, tCons, tNil, tLst, tTup, tRet, gName, gCons, gNil, gSub, rSetL, tTest, tB, tNot, tAnd, tOr, tAndV, tOrV, tNotV, tNext, tDrop, tCall, tCallK, gKbV, tSl, tNoPart, tPart, tPar, rEq, rNe, tLc_eq, tFor_eq, iRng1, L2.start, cxOf, Cx.nox, tBM, rAppend]
        refine ⟨.inl ⟨rfl, _, .inl (.inl g5)⟩, szl _ (by decide), fun p9 n9 => ?_⟩
        have m9 := Same.new (o := .tup [V.str f, V.ref L]) n9
        have p9D : p9 ≠ D := fun z => by rw [z, g5] at n9; cases n9
        have p9t := ntp g3 n9
        refine ⟨vs, m9 _ _ g5, by rw [sizeLine_eq]; omega, _, _, _, _, _, ps ++ [(f, ls)], vs ++ [.ref p9], rfl, ?_, ?_, ?_, ?_, upd_same, by simp [e6], ?_⟩
        · rw [List.map_append, e1, take_at ef]; rfl
        · intro p hp
          rcases List.mem_append.mp hp with h | h
          · exact e2 p h
          · rw [List.mem_singleton.mp h]
            exact ⟨by show ls.length ≤ 3; omega, g2⟩
        · exact ((g3.new n9).ext (upd_ne Dt.symm)).mono (by omega)
        · intro b o nb e
          by_cases bD : b = D
          · subst bD; rw [nD] at e; cases e
          · rw [upd_ne bD]; exact m9 _ _ (g4 b o nb e)
        · have s9 : Same (hid [L, D, t] He) (hid [D, t] (upd He p9 (.tup [V.str f, V.ref L]))) := Same.trans (hid_less (by simp)) (hid_on fun b o _ e => m9 _ _ e)
          rw [hid_upd (by simp), List.map_append]
          refine Rp.DpAll.snoc (Rp.DpAll.same s9 g8) (.tup (.inl (.inl (by rw [hid_at (by simp [p9D, p9t])]; exact upd_same))) (.cons (.str f) (.cons (.lst (.inl (.inl ?_)) (Rp.DpAll.same s9 g9)) .nil)))
          rw [hid_at (by simp [LD, Lt])]; exact m9 _ _ g6
    · obtain ⟨y3, y4, y5, y6, y7, ps, vs, rfl, e1, e2, e3, e4, e5, e6, e7⟩ := hp
      rw [List.length_map] at e1 e3
      rw [List.take_length] at e1
      simp [tSeq, tAsg, tIf, tIfS, tVar, tC, tOp, tUn, rI, rI0, rU, tCB, tCons, tNil, tLst, tTup, tRet, gName, gCons, gNil, gSub, rSetL, tTest, tB, tNot, tAnd, tOr, tAndV, tOrV, tNotV, tNext, tDrop, tCall, tCallK, gKbV, tSl, tNoPart, tPart, tPar, rEq, rNe, tLc_eq, tFor_eq, iRng1, L2.start, cxOf, Cx.nox]
      exact q ps (.ref D) H' e1 e2 e3 e4 (.lst (.inl (.inl (by rw [hid_at (by simp [Dt])]; exact e5))) (Rp.DpAll.same (hid_less (by simp)) e7))
end
theorem sc__law_made : FnScope ["_law_pairs_here", "_law_plum", "_law_lots"] ["_law_pairs_here"] (defScope s__law_made) := ⟨rfl, rfl, rfl, by decide +kernel, rfl, by decide +kernel, by decide +kernel⟩
theorem sc__law_orchard : FnScope ["_law_tape_here", "_law_few", "_law_most"] ["_law_tape_here", "_law_few", "_law_most"] (defScope s__law_orchard) := ⟨rfl, rfl, rfl, by decide +kernel, rfl, by decide +kernel, by decide +kernel⟩
section
variable {P : Program} {w : World} {K : PySem.W.Frag} {mg : Str → Option Value} {base : Heap}
def sp__law_made (K : PySem.W.Frag) : Sp := fun vs H Q _ => ∃ (v : V) (ps : List (Str × List (List Str))), vs = [v] ∧ Dp K H v (.list (ps.map prD)) ∧ ps.length < 60 ∧ (∀ p ∈ ps, p.2.length < 60 ∧ ∀ z ∈ p.2, z.length < 60 ∧ okT z) ∧
  ∀ (G : List (Str × List (List Str))) (v' : V) (H' : Hp), Same H H' → Dp K (news H H') v' (grD G) → (G.map (·.1)).Perm (ps.map (·.1)) → (∀ g ∈ G, g.2.length < 64 ∧ ∀ z ∈ g.2, ∃ p ∈ ps, ∃ y ∈ p.2, z.Perm y) → Q v' H'
def Pmade (K : PySem.W.Frag) (H : Hp) (ps : List (Str × List (List Str))) (D : Addr) (i : Nat) (H' : Hp) : Prop := ∃ (G : List (Str × List (List Str))) (vs : List V), Same H (mask D H') ∧ H' D = some (.lst vs) ∧ vs.length = i ∧ G.map (·.1) = (ps.take i).map (·.1) ∧ (∀ g ∈ G, g.2.length < 64 ∧ ∀ z ∈ g.2, ∃ p ∈ ps, ∃ y ∈ p.2, z.Perm y) ∧ DpAll K (mask D (news H H')) vs (G.map fruitD)
theorem ok__law_made (T : Txt K mg) : FnOk P w K mg base CX0 4 T.f__law_made T.fd__law_made ["_law_pairs_here"] (sp__law_made K) := by
  refine T.F__law_made.ok sc__law_made (fun vs H Q E h => ?_) (fun cdv A outer s H vs Q E hr h => ?_)
  · obtain ⟨v, ps, rfl, _⟩ := h
    rfl
  · obtain ⟨v, ps, rfl, hd, hl, hz, q⟩ := h
    cases hd with
    | @lst a xs _ sa da =>
    have lx := DpAll.len da
    rw [List.length_map] at lx
    refine ⟨_, (pss_one (ps_ret (pe_callTy call_tuple_of (by rfl) T.m_tuple (by decide +kernel) (pa_cons (pe_callB (cr_sortD hr.units) (by rfl) T.m_sorted (by decide +kernel) (pa_cons (pe_lc (own := [("_law_plum", 1), ("_law_lots", 2)]) (g := (gTup K 2 (gCons (gName 1) (gCons (gName 2) gNil)))) (tt := tYes) (te := (tTup (tCons (tVar 1) (tCons (tCall (sp__law_least K) [] E0 (tCons (tVar 2) tNil)) tNil)))) (by rfl) sc__law_made.nd (pi_seq (pv 0)) (blkOk_by (own := [("_law_plum", 1), ("_law_lots", 2)]) (N := ["_law_pairs_here", "_law_plum", "_law_lots"]) (sc := defScope s__law_made) (by decide +kernel)) (fun _ _ _ _ _ => (pg_tup rfl (pgs_cons (pg_name (i := 1) sc__law_made.nd rfl (by first | exact Or.inl rfl | exact Or.inr rfl)) (pgs_cons (pg_name (i := 2) sc__law_made.nd rfl (by first | exact Or.inl rfl | exact Or.inr rfl)) pgs_nil)))) (fun _ _ _ _ _ => pts_nil) (fun _ _ _ _ _ => (pe_tup (pa_cons (pv 1) (pa_cons (pe_call (ok__law_least T) (hr.mono (by decide)) (by rfl) T.g__law_least T.F__law_least.kp T.b__law_least .nil pass0 (pa_cons (pv 2) pa_nil)) pa_nil))))) pa_nil)) pa_nil)))), ?_⟩
    simp [tSeq, tAsg, tIf, tIfS, tVar, tC, tOp, tUn, rI, rI0, rU, tCB, tCons, tNil, tLst, tTup, tRet, gName, gCons, gNil, gSub, rSetL, tTest, tB, tNot, tAnd, tOr, tAndV, tOrV, tNotV, tNext, tDrop, tCall, tCallK, gKbV, tSl, tNoPart, tPart, tPar, rEq, rNe, tLc_eq, tFor_eq, iRng1, L2.start, cxOf, Cx.nox]
    refine walk_any rfl (.inl sa) fun J wk => lcK wk (Pmade K H ps) (fun D nD => ⟨[], [], mask_into nD (Same.new nD), upd_same, rfl, rfl, fun _ h => (by cases h), .nil⟩) (fun D i H' _ h => h.elim fun _ h => h.elim fun _ h => mask_to h.1) (fun D i x Ha Hb nD hi hp hy => ?_) (fun D Hg nD hp => ?_)
    · obtain ⟨G, vs, s1, eD, lv, eG, hG, dv⟩ := hp
      obtain ⟨rfl, hx'⟩ := hy
      obtain ⟨dx, e1, h1⟩ := DpAll.at da hx'
      rw [List.getElem?_map] at e1
      obtain ⟨p, ep, rfl⟩ := Option.map_eq_some_iff.mp e1
      obtain ⟨hz1, hz2⟩ := hz p (List.mem_of_getElem? ep)
      cases h1 with
      | @tup c ys _ sc dc =>
      cases dc with
      | @cons v1 _ _ _ c1 dc =>
      cases dc with
      | @cons v2 _ _ _ c2 dc =>
      cases dc
      cases c1
      refine gTup2 (Same.seqT (mask_to s1) sc) ?_
      simp [tSeq, tAsg, tIf, tIfS, tVar, tC, tOp, tUn, rI, rI0, rU, tCB, tCons, tNil, tLst, tTup, tRet, gName, gCons, gNil, gSub, rSetL, tTest, tB, tNot, tAnd, tOr, tAndV, tOrV, tNotV, tNext, tDrop, tCall, tCallK, gKbV, tSl, tNoPart, tPart, tPar, rEq, rNe, tLc_eq, tFor_eq, iRng1, L2.start, cxOf, Cx.nox, wipe, tYes]
      refine ⟨v2, p.2, rfl, Dp.same (mask_to s1) c2, by omega, hz2, fun ls' v' H1 sH dv' ll hpm => ⟨by rw [sizeLine_eq]; decide, fun p1 n1 => ?_⟩⟩
      have m1 := Same.new (o := .tup [V.str p.1, v']) n1
      have eD1 := sH _ _ eD
      have p1D : p1 ≠ D := fun z => by rw [z, eD1] at n1; cases n1
      have fr : ∀ {b : Addr}, Hb b = none → H b = none := fun {b} e => by
        cases z : H b with
        | none => rfl
        | some u => rw [mask_to s1 b u z] at e; cases e
      have fr1 : H p1 = none := by
        cases z : H p1 with
        | none => rfl
        | some u => rw [sH _ _ (mask_to s1 _ u z)] at n1; cases n1
      refine ⟨vs, m1 _ _ eD1, by rw [sizeLine_eq]; omega, G ++ [(p.1, ls')], vs ++ [.ref p1], ?_, upd_same, by simp [lv], ?_, ?_, ?_⟩
      · rw [mask_upd]; exact s1.trans (mask_on (sH.trans m1))
      · rw [List.map_append, eG, take_at ep, List.map_append]; rfl
      · intro g hg
        rcases List.mem_append.mp hg with h | h
        · exact hG g h
        · rw [List.mem_singleton.mp h]
          exact ⟨ll, fun z hz => ⟨p, List.mem_of_getElem? ep, hpm z hz⟩⟩
      · rw [List.map_append]
        refine Rp.DpAll.snoc (Rp.DpAll.same (fun b o e => ?_) dv) (.tup (xs := [.str p.1, v']) (.inl (.inl ?_)) (.cons (.str _) (.cons (Dp.same (fun b o e => ?_) dv') .nil)))
        · by_cases bD : b = D
          · rw [bD] at e; simp [mask] at e
          · rw [mask_ne bD] at e ⊢
            obtain ⟨g1, g2⟩ := news_some e
            rw [news_at g1, upd_ne bD]; exact m1 _ _ (sH _ _ g2)
        · rw [mask_ne p1D, news_at fr1, upd_ne p1D]; exact upd_same
        · obtain ⟨g1, g2⟩ := news_some e
          have bD : b ≠ D := fun z => by rw [z, eD] at g1; cases g1
          rw [mask_ne bD, news_at (fr g1), upd_ne bD]; exact m1 _ _ g2
    · obtain ⟨G, vs, s1, eD, lv, eG, hG, dv⟩ := hp
      rw [lx, List.take_length] at eG
      have dv2 := Rp.DpAll.same (mask_same D _) dv
      obtain ⟨z1, z2, z3⟩ := zip_dp dv2
      refine ⟨D, vs.zip (G.map fruitD), rfl, .inl (.inl (by rw [z1]; exact eD)), fun p hp => Dp.same (news_in H Hg) (z3 p hp), by rw [z2]; exact alike_fruits G, .inr (.inl fun d hd => ?_), fun p hp => ?_, fun R nR => ?_⟩
      · rw [z2] at hd
        obtain ⟨g, _, rfl⟩ := List.mem_map.mp hd
        exact ⟨_, _, rfl⟩
      · have : p.2 ∈ G.map fruitD := by rw [← z2]; exact List.mem_map.mpr ⟨p, hp, rfl⟩
        obtain ⟨g, _, e⟩ := List.mem_map.mp this
        rw [← e]; exact depth_fruit g
      · have pZ : (srtD (vs.zip (G.map fruitD))).Perm (vs.zip (G.map fruitD)) := List.mergeSort_perm _ _
        obtain ⟨G', g1, g2⟩ := perm_unmap (f := fruitD) (pZ.map (·.2)) G z2
        have zz : ∀ p ∈ srtD (vs.zip (G.map fruitD)), Dp K (news H Hg) p.1 p.2 := fun p hp => z3 p (pZ.mem_iff.mp hp)
        have dZ := dp_zip zz
        rw [g1] at dZ
        have sR := Same.new (o := .lst ((srtD (vs.zip (G.map fruitD))).map (·.1))) nR
        refine ⟨R, rfl, _, .inl ⟨.inl (.inl upd_same), fun l nl => ?_⟩⟩
        have sl := Same.new (o := .tup ((srtD (vs.zip (G.map fruitD))).map (·.1))) nl
        have tot := (mask_to s1).trans (sR.trans sl)
        have hl0 : H l = none := by
          cases e : H l with
          | none => rfl
          | some u => rw [((mask_to s1).trans sR) _ _ e] at nl; cases nl
        refine q G' (.ref l) _ tot (.tup (.inl (.inl (by rw [news_at hl0]; exact upd_same))) (Rp.DpAll.same (fun b o e => ?_) dZ)) (by rw [← eG]; exact g2.map _) (fun g hg => hG g (g2.mem_iff.mp hg))
        obtain ⟨b1, b2⟩ := news_some e
        rw [news_at b1]; exact sl _ _ (sR _ _ b2)
def sp__law_orchard (K : PySem.W.Frag) : Sp := fun vs H Q _ => ∃ (t : Addr) (few most n : Nat), vs = [.ref t, .int few, .int most] ∧ TapeAt H t n ∧ n ≤ 70000000 ∧ few ≤ most ∧ most ≤ 24 ∧
  ∀ (G : List (Str × List (List Str))) (v : V) (H' : Hp), Ext t H H' → TapeAt H' t (n + 600) → Dp K (hid [t] H') v (grD G) → (∃ zs, Grown zs G ∧ few ≤ zs.length ∧ zs.length ≤ most) → Q v H'
theorem ok__law_orchard (T : Txt K mg) : FnOk P w K mg base CX0 5 T.f__law_orchard T.fd__law_orchard ["_law_tape_here", "_law_few", "_law_most"] (sp__law_orchard K) := by
  refine T.F__law_orchard.ok sc__law_orchard (fun vs H Q E h => ?_) (fun cdv A outer s H vs Q E hr h => ?_)
  · obtain ⟨t, few, most, n, rfl, _⟩ := h
    rfl
  · obtain ⟨t, few, most, n, rfl, hT, hn, hf, hm, q⟩ := h
    refine ⟨_, (pss_one (ps_ret (pe_call (ok__law_made T) (hr.mono (by decide)) (by rfl) T.g__law_made T.F__law_made.kp T.b__law_made .nil pass0 (pa_cons (pe_call (ok__law_pairs T) (hr.mono (by decide)) (by rfl) T.g__law_pairs T.F__law_pairs.kp T.b__law_pairs .nil pass0 (pa_cons (pv 0) (pa_cons (pe_call (ok__law_names T) (hr.mono (by decide)) (by rfl) T.g__law_names T.F__law_names.kp T.b__law_names .nil pass0 (pa_cons (pv 0) (pa_cons (pe_op op_add (pv 1) (pe_call (ok__law_draw T) (hr.mono (by decide)) (by rfl) T.g__law_draw T.F__law_draw.kp T.b__law_draw .nil pass0 (pa_cons (pv 0) (pa_cons (pe_op op_add (pe_op op_sub (pv 2) (pv 1)) pe_int) pa_nil)))) pa_nil))) pa_nil))) pa_nil)))), ?_⟩
    simp [tSeq, tAsg, tIf, tIfS, tVar, tC, tOp, tUn, rI, rI0, rU, tCB, tCons, tNil, tLst, tTup, tRet, gName, gCons, gNil, gSub, rSetL, tTest, tB, tNot, tAnd, tOr, tAndV, tOrV, tNotV, tNext, tDrop, tCall, tCallK, gKbV, tSl, tNoPart, tPart, tPar, rEq, rNe, tLc_eq, tFor_eq, iRng1, L2.start, cxOf, Cx.nox]
    refine ⟨t, _, n, rfl, hT, by omega, by omega, by omega, fun r H1 r0 r1 T1 k1 => ?_⟩
    obtain ⟨k, rfl⟩ : ∃ k : Nat, r = k := ⟨r.toNat, by omega⟩
    refine ⟨k, rfl, t, few + k, n + 1, by simp, T1, by omega, by omega, fun zs p2 H2 l2 nd2 nm2 ap2 np2 T2 x2 e2 => ?_⟩
    refine ⟨t, p2, zs, _, rfl, T2, by omega, e2, by omega, fun ps v3 H3 e3 g3 T3 x3 d3 => ?_⟩
    have lp : ps.length = zs.length := by rw [← e3, List.length_map]
    refine ⟨v3, ps, rfl, Dp.same (hid_in _ _) d3, by omega, fun p hp => ⟨by have := (g3 p hp).1; omega, fun z hz => ⟨by have := ((g3 p hp).2 z hz).1; omega, fun x hx => name_ok (nm2 x (((g3 p hp).2 z hz).2 x hx))⟩⟩, fun G v4 H4 s4 d4 pm4 g4 => ?_⟩
    have xa : Ext t H H1 := fun b o nb e => by rw [k1 b nb]; exact e
    refine q G v4 H4 (xa.trans (x2.trans (x3.trans (Ext.of s4)))) ((T3.same s4).mono (by omega)) (Rp.Dp.apart (tape_some T3) d4) ⟨zs, ⟨?_, ?_, ?_, ?_, ?_⟩, by omega, by omega⟩
    · rw [e3] at pm4
      exact pm4.nodup_iff.mpr nd2
    · intro p hp
      refine nm2 _ ?_
      rw [← e3]
      exact pm4.mem_iff.mp (List.mem_map.mpr ⟨p, hp, rfl⟩)
    · intro g hg
      refine ⟨(g4 g hg).1, fun z hz => ?_⟩
      obtain ⟨p, hp, y, hy, pm⟩ := (g4 g hg).2 z hz
      have g := (g3 p hp).2 y hy
      exact ⟨by rw [pm.length_eq]; exact g.1, fun x hx => nm2 x (g.2 x (pm.mem_iff.mp hx))⟩
    · have := pm4.length_eq
      rw [List.length_map, List.length_map] at this
      omega
    · rw [e3] at pm4
      rintro ⟨h1, h2⟩
      exact ap2 ⟨pm4.mem_iff.mp h1, pm4.mem_iff.mp h2⟩
end
theorem sc__law_ripe : FnScope ["_law_grove", "_law_off", "_law_found", "_law_plum", "_law_lots", "_law_lot"] ["_law_grove", "_law_off"] (defScope s__law_ripe) := ⟨rfl, rfl, rfl, by decide +kernel, rfl, by decide +kernel, by decide +kernel⟩
section
variable {P : Program} {w : World} {K : PySem.W.Frag} {mg : Str → Option Value} {base : Heap}
def sp__law_ripe (K : PySem.W.Frag) : Sp := fun vs H Q _ => ∃ (v : V) (G : List (Str × List (List Str))) (b : Addr) (o : List Str), vs = [v, .ref b] ∧ Dp K H v (grD G) ∧ G.length ≤ 1000 ∧ (∀ p ∈ G, p.2.length ≤ 1000 ∧ ∀ z ∈ p.2, z.length ≤ 1000) ∧
  (SqL K H b (o.map V.str) ∨ SqT K H b (o.map V.str)) ∧ ∀ (q : Addr) (H' : Hp), H q = none → Same H H' → H' q = some (.lst ((ripeG G o).map V.str)) → Q (.ref q) H'
def Plripe (H : Hp) (v : V) (b D : Addr) (G : List (Str × List (List Str))) (o : List Str) (i : Nat) (σ : L2.St) (H' : Hp) : Prop := ∃ y3 y4 y5 : Option V, σ = [some v, some (.ref b), some (.ref D), y3, y4, y5] ∧ Same H H' ∧ H' D = some (.lst ((ripeG (G.take i) o).map V.str))
theorem ok__law_ripe (T : Txt K mg) : FnOk P w K mg base CX0 2 T.f__law_ripe T.fd__law_ripe ["_law_grove", "_law_off"] (sp__law_ripe K) := by
  refine T.F__law_ripe.ok sc__law_ripe (fun vs H Q E h => ?_) (fun cdv A outer s H vs Q E hr h => ?_)
  · obtain ⟨v, G, b, o, rfl, _⟩ := h
    rfl
  · obtain ⟨v, G, b, o, rfl, hd, hl, hz, hb, q⟩ := h
    cases hd with
    | @tup a xs _ sa da =>
    have lx := DpAll.len da
    rw [List.length_map] at lx
    refine ⟨_, (pss_cons (ps_set (i := 2) sc__law_ripe.nd rfl (by first | exact Or.inl rfl | exact Or.inr rfl) (pe_lst pa_nil))
      (pss_cons (ps_for PassesOwn.never rfl (pi_tup (pv 0)) (pg_tup rfl (pgs_cons (pg_name (i := 3) sc__law_ripe.nd rfl (by first | exact Or.inl rfl | exact Or.inr rfl)) (pgs_cons (pg_name (i := 4) sc__law_ripe.nd rfl (by first | exact Or.inl rfl | exact Or.inr rfl)) pgs_nil)))
      (pss_one (ps_if (PW.pt (pw_and (pt_cmpR op_notIn_seq (pv 3) (pv 1) (by rfl)) (pw_and1 (pt_val (pe_callB (cr_any rfl) (by rfl) T.m_any (by decide +kernel) (pa_cons (pe_lc (own := [("_law_lot", 5)]) (g := (gName 5)) (tt := tYes) (te := (tCall (sp__law_in K) [] E0 (tCons (tVar 5) (tCons (tVar 1) tNil)))) (by rfl) sc__law_ripe.nd (pi_seq (pv 4)) (blkOk_by (own := [("_law_lot", 5)]) (N := ["_law_grove", "_law_off", "_law_found", "_law_plum", "_law_lots", "_law_lot"]) (sc := defScope s__law_ripe) (by decide +kernel)) (fun _ _ _ _ _ => (pg_name (i := 5) sc__law_ripe.nd rfl (by first | exact Or.inl rfl | exact Or.inr rfl))) (fun _ _ _ _ _ => pts_nil) (fun _ _ _ _ _ => (pe_call (ok__law_in T) (hr.mono (by decide)) (by rfl) T.g__law_in T.F__law_in.kp T.b__law_in .nil pass0 (pa_cons (pv 5) (pa_cons (pv 1) pa_nil))))) pa_nil)))))) (pss_one (ps_expr (pe_bm PySem.F.plainAttrs_list PySem.F.slot_list_append PySem.F.type_list_append mt_append (pv 2) (pa_cons (pv 3) pa_nil)))) pss_nil)))
      (pss_one (ps_ret (pv 2))))), ?_⟩
    simp [tSeq, tAsg, tIf, tIfS, tVar, tC, tOp, tUn, rI, rI0, rU, tCB, tCons, tNil, tLst, tTup, tRet, gName, gCons, gNil, gSub, rSetL, tTest, tB, tNot, tAnd, tOr, tAndV, tOrV, tNotV, tNext, tDrop, tCall, tCallK, gKbV, tSl, tNoPart, tPart, tPar, rEq, rNe, tLc_eq, tFor_eq, iRng1, L2.start, cxOf, Cx.nox]
    intro D nD
    have mD := Same.new (o := .lst []) nD
    refine ⟨.ref a, rfl, a, rfl, ⟨_, Same.seqT mD sa⟩, ?_⟩
    refine frK (walk_tup (xs := xs)) (Plripe H (.ref a) b D G o) ⟨none, none, none, rfl, mD, upd_same⟩ (fun i σ H' _ h => ?_) (fun i x σ H1 H2 hi hp hy => ?_) (fun σ H' hp => ?_)
    · obtain ⟨y3, y4, y5, rfl, sH, eD⟩ := h
      exact Same.seqT sH sa
    · obtain ⟨y3, y4, y5, rfl, sH, eD⟩ := hp
      obtain ⟨rfl, hx'⟩ := hy
      obtain ⟨dx, e1, h1⟩ := DpAll.at da hx'
      rw [List.getElem?_map] at e1
      obtain ⟨p, ep, rfl⟩ := Option.map_eq_some_iff.mp e1
      obtain ⟨c, l, rfl, hc, hdl⟩ := pair_of h1
      refine gTup2 (Same.seqT sH hc) ?_
      simp [tSeq, tAsg, tIf, tIfS, tVar, tC, tOp, tUn, rI, rI0, rU, tCB, tCons, tNil, tLst, tTup, tRet, gName, gCons, gNil, gSub, rSetL, tTest, tB, tNot, tAnd, tOr, tAndV, tOrV, tNotV, tNext, tDrop, tCall, tCallK, gKbV, tSl, tNoPart, tPart, tPar, rEq, rNe, tLc_eq, tFor_eq, iRng1, L2.start, cxOf, Cx.nox]
      refine ⟨b, _, rfl, seq_same sH hb, rfl, flat_strs o, ?_⟩
      rw [inV_strs]
      have st := ripe_step (o := o) ep
      have rl := ripe_le (G := G.take i) (o := o)
      rw [List.length_take] at rl
      have hp0 := hz p (List.mem_of_getElem? ep)
      by_cases hin : p.1 ∈ o
      · refine .inl ⟨by simp [hin], _, _, _, rfl, sH, ?_⟩
        rw [st]; simp [hin, eD]
      · refine .inr ⟨by simp [hin], ?_⟩
        cases hdl with
        | @tup b2 ws _ sw dw =>
        have lw := DpAll.len dw
        rw [List.length_map] at lw
        refine walk_any rfl (.inr (Same.seqT sH sw)) fun J wk => lcK wk (Phow H2 p.2 o) (fun D nD => ⟨Same.new nD, upd_same⟩) (fun D i H' _ h => h.1) (fun D3 i' x' Ha Hb nD3 hi' hp' hy' => ?_) (fun D3 Hg nD3 hp' => ?_)
        · obtain ⟨rfl, hx2⟩ := hy'
          obtain ⟨d2, g1, g2⟩ := DpAll.at dw hx2
          rw [List.getElem?_map] at g1
          obtain ⟨z, ez, rfl⟩ := Option.map_eq_some_iff.mp g1
          obtain ⟨c2, rfl, hc2⟩ := lot_of g2 (flat_tx z)
          simp [tSeq, tAsg, tIf, tIfS, tVar, tC, tOp, tUn, rI, rI0, rU, tCB, tCons, tNil, tLst, tTup, tRet, gName, gCons, gNil, gSub, rSetL, tTest, tB, tNot, tAnd, tOr, tAndV, tOrV, tNotV, tNext, tDrop, tCall, tCallK, gKbV, tSl, tNoPart, tPart, tPar, rEq, rNe, tLc_eq, tFor_eq, iRng1, L2.start, cxOf, Cx.nox, wipe, tYes]
          refine ⟨c2, b, z, o, rfl, seq_same (sH.trans hp'.1) hc2, seq_same (sH.trans hp'.1) hb, hp0.2 z (List.mem_of_getElem? ez), fun H' s4 => ?_⟩
          refine ⟨_, s4 _ _ hp'.2, by rw [List.length_map, List.length_take, sizeLine_eq]; omega, fun c u e => by rw [upd_ne (ne_of_none e nD3)]; exact s4 _ _ (hp'.1 _ _ e), ?_⟩
          rw [upd_same, take_at ez, List.map_append]; rfl
        · rw [lw, Phow, List.take_length] at hp'
          refine ⟨D3, p.2.map fun z => inAll z o, rfl, .inl (.inl (by rw [hp'.2, List.map_map]; rfl)), ?_⟩
          rw [inOne_map]
          by_cases h1' : inOne p.2 o = true
          · refine .inr ⟨by rw [h1'], ?_⟩
            have eD' := hp'.1 _ _ eD
            simp [tSeq, tAsg, tIf, tIfS, tVar, tC, tOp, tUn, rI, rI0, rU, tCB, tCons, tNil, tLst, tTup, tRet, gName, gCons, gNil, gSub, rSetL, tTest, tB, tNot, tAnd, tOr, tAndV, tOrV, tNotV, tNext, tDrop, tCall, tCallK, gKbV, tSl, tNoPart, tPart, tPar, rEq, rNe, tLc_eq, tFor_eq, iRng1, L2.start, cxOf, Cx.nox, tBM, rAppend]
            refine ⟨.inl ⟨rfl, _, .inl (.inl eD')⟩, _, eD', by rw [List.length_map, sizeLine_eq]; omega, _, _, _, rfl, fun c u e => by rw [upd_ne (ne_of_none e nD)]; exact hp'.1 _ _ (sH _ _ e), ?_⟩
            rw [upd_same, st]; simp [hin, h1']
          · refine .inl ⟨by simp [h1'], _, _, _, rfl, sH.trans hp'.1, ?_⟩
            rw [st, hp'.1 _ _ eD]; simp [hin, h1']
    · obtain ⟨y3, y4, y5, rfl, sH, eD⟩ := hp
      rw [lx, List.take_length] at eD
      simp [tSeq, tAsg, tIf, tIfS, tVar, tC, tOp, tUn, rI, rI0, rU, tCB, tCons, tNil, tLst, tTup, tRet, gName, gCons, gNil, gSub, rSetL, tTest, tB, tNot, tAnd, tOr, tAndV, tOrV, tNotV, tNext, tDrop, tCall, tCallK, gKbV, tSl, tNoPart, tPart, tPar, rEq, rNe, tLc_eq, tFor_eq, iRng1, L2.start, cxOf, Cx.nox]
      exact q D H' nD sH eD
end
theorem sc__law_refused : FnScope ["_law_way", "_law_grove", "_law_plum", "_law_caught", "error"] ["_law_way", "_law_grove", "_law_plum"] (defScope s__law_refused) := ⟨rfl, rfl, rfl, by decide +kernel, rfl, by decide +kernel, by decide +kernel⟩
section
variable {P : Program} {w : World} {K : PySem.W.Frag} {mg : Str → Option Value} {base : Heap}
def sp__law_refused (K : PySem.W.Frag) : Sp := fun vs H Q _ => ∃ (m : Nat) (v : V) (G : List (Str × List (List Str))) (f : Str), vs = [.int m, v, .str f] ∧ Dp K H v (grD G) ∧ G.length ≤ 1000 ∧ (∀ p ∈ G, p.2.length ≤ 1000 ∧ ∀ z ∈ p.2, z.length ≤ 1000) ∧ lookG G f = none ∧ ∀ H', Same H H' → Q (.str f) H'
theorem ok__law_refused (T : Txt K mg) : FnOk P w K mg base CX0 7 T.f__law_refused T.fd__law_refused ["_law_way", "_law_grove", "_law_plum"] (sp__law_refused K) := by
  refine T.F__law_refused.ok sc__law_refused (fun vs H Q E h => ?_) (fun cdv A outer s H vs Q E hr h => ?_)
  · obtain ⟨m, v, G, f, rfl, _⟩ := h
    rfl
  · obtain ⟨m, v, G, f, rfl, hd, hl, hz, nf, q⟩ := h
    refine ⟨_, (pss_cons (ps_set (i := 3) sc__law_refused.nd rfl (by first | exact Or.inl rfl | exact Or.inr rfl) pe_non)
      (pss_cons (ps_try_held (i := 4) (tb := fun W => (tIfS (tTest (tOp rEq (tVar 0) (tC (.int 0)))) (tDrop (tCallS (sp_lots_of K T.c_NoFruit) (WE W) (tCons (tVar 1) (tCons (tVar 2) tNil)))) (tDrop (tCallS (sp_is_ripe K T.c_NoFruit) (WE W) (tCons (tVar 1) (tCons (tVar 2) (tCons (tLst tNil) tNil))))))) (ts := fun a => tAsg (tVar 4) (gName 3)) (cs := [.ref T.c_NoFruit, .ref T.c_NoRow, .ref T.c_Stays]) rfl rfl sc__law_refused.nd rfl rfl rfl (by rw [sizeLine_eq]; simp) exmTup3 (fun a pn => (nm_cons rfl T.g_NoFruit (nm_cons rfl T.g_NoRow (nm_cons rfl T.g_Stays nm_nil)))) (fun W pn xe tk _ => (pss_one (ps_if (pt_cmpR op_eq (pv 0) pe_int (nomark _)) (pss_one (ps_expr (by exact (pe_callS (ok_lots_of T) (hr.mono (by decide)) rfl T.g_lots_of T.F_lots_of.kp T.b_lots_of (fun σ => passAt tk σ) (by exact (pa_cons (pv 1) (pa_cons (pv 2) pa_nil))))))) (pss_one (ps_expr (by exact (pe_callS (ok_is_ripe T) (hr.mono (by decide)) rfl T.g_is_ripe T.F_is_ripe.kp T.b_is_ripe (fun σ => passAt tk σ) (by exact (pa_cons (pv 1) (pa_cons (pv 2) (pa_cons (pe_lst pa_nil) pa_nil))))))))))) (fun a pn => (pss_one (ps_set (i := 3) sc__law_refused.nd rfl (by first | exact Or.inl rfl | exact Or.inr rfl) (pv 4)))))
      (pss_cons (ps_if (PW.pt (pw_or (pt_not (pt_val (pe_callB call_isH (by rfl) T.m_isinstance (by decide +kernel) (pa_cons (pv 3) (pa_cons (pe_glob (v := .ref T.c_NoFruit) rfl T.g_NoFruit rfl) pa_nil))))) (pw_or (pt_val (pe_callB call_isHT (by rfl) T.m_isinstance (by decide +kernel) (pa_cons (pv 3) (pa_cons (pe_tup (pa_cons (pe_glob (v := .ref T.c_NoRow) rfl T.g_NoRow rfl) (pa_cons (pe_glob (v := .ref T.c_Stays) rfl T.g_Stays rfl) pa_nil))) pa_nil)))) (pw_or1 (pt_not (pt_val (pe_callB call_isH (by rfl) T.m_isinstance (by decide +kernel) (pa_cons (pv 3) (pa_cons (pe_bltn (v := .ty "LookupError") (by rfl) T.m_LookupError (by decide +kernel) rfl) pa_nil))))))))) (pss_one (ps_ret pe_non)) pss_nil)
      (pss_one (ps_ret (pe_whatH (pv 3))))))), ?_⟩
    simp [tSeq, tAsg, tIf, tIfS, tVar, tC, tOp, tUn, rI, rI0, rU, tCB, tCons, tNil, tLst, tTup, tRet, gName, gCons, gNil, gSub, rSetL, tTest, tB, tNot, tAnd, tOr, tAndV, tOrV, tNotV, tNext, tDrop, tCall, tCallK, gKbV, tSl, tNoPart, tPart, tPar, rEq, rNe, tLc_eq, tFor_eq, iRng1, L2.start, cxOf, Cx.nox]
    refine ⟨rfl, ?_⟩
    by_cases m0 : m = 0
    · rw [if_pos m0]
      refine ⟨v, rfl, .str f, rfl, v, _, G, f, rfl, hd, flat_gr G, hl, fun p hp => (hz p hp).1, fun ls e => absurd (nf.symm.trans e) (by simp), fun _ d H' nd' sH hd' => ?_⟩
      · skip
        refine ⟨T.c_NoFruit, d, rfl, rfl, by simp [PySem.W.exmAny, T.x_NoFruit_NoFruit, T.x_NoFruit_NoRow, T.x_NoFruit_Stays], fun e ne => ?_⟩
        simp [tSeq, tAsg, tIf, tIfS, tVar, tC, tOp, tUn, rI, rI0, rU, tCB, tCons, tNil, tLst, tTup, tRet, gName, gCons, gNil, gSub, rSetL, tTest, tB, tNot, tAnd, tOr, tAndV, tOrV, tNotV, tNext, tDrop, tCall, tCallK, gKbV, tSl, tNoPart, tPart, tPar, rEq, rNe, tLc_eq, tFor_eq, iRng1, L2.start, cxOf, Cx.nox, goneAt]
        have he : (upd H' e (ExH e T.c_NoFruit d)) e = some (ExH e T.c_NoFruit d) := upd_same
        have hd2 : (upd H' e (ExH e T.c_NoFruit d)) d = some (.xd [(("what" : Str), .str f)]) := by rw [upd_ne (ne_of_none hd' ne)]; exact hd'
        refine ⟨e, T.c_NoFruit, d, _, _, _, true, rfl, he, hd2, T.is_NoFruit, .own _, T.ki_NoFruit_NoFruit, .inr ⟨rfl, by rw [sizeLine_eq]; decide, fun p np => ?_⟩⟩
        have sp := Same.new (o := .tup [V.ref T.c_NoRow, V.ref T.c_Stays]) np
        refine ⟨e, T.c_NoFruit, d, _, p, _, _, false, rfl, sp _ _ he, sp _ _ hd2, T.is_NoFruit, upd_same, .cons (.own _) (.cons (.own _) .nil), by simp [PySem.W.kitAny, T.ki_NoFruit_NoRow, T.ki_NoFruit_Stays], .inl ⟨rfl, ?_⟩⟩
        refine ⟨e, T.c_NoFruit, d, _, _, _, true, rfl, sp _ _ he, sp _ _ hd2, T.is_NoFruit, .ty _, T.kt_NoFruit_LookupError, .inr ⟨rfl, ?_⟩⟩
        exact ⟨.ref e, rfl, e, T.c_NoFruit, d, .str f, rfl, sp _ _ he, sp _ _ hd2, T.is_NoFruit, T.w_NoFruit.noN, q _ (sH.trans ((Same.new ne).trans sp))⟩
    · rw [if_neg m0]
      refine ⟨v, rfl, .str f, rfl, Nat.zero_le _, fun pb nb => ?_⟩
      have sb := Same.new (o := .lst []) nb
      refine ⟨v, _, G, f, pb, [], rfl, Dp.same sb hd, flat_gr G, hl, hz, .inl (.inl (.inl upd_same)), fun ls e => absurd (nf.symm.trans e) (by simp), fun _ d H' nd' sH' hd' => ?_⟩
      · have sH := sb.trans sH'
        refine ⟨T.c_NoFruit, d, rfl, rfl, by simp [PySem.W.exmAny, T.x_NoFruit_NoFruit, T.x_NoFruit_NoRow, T.x_NoFruit_Stays], fun e ne => ?_⟩
        simp [tSeq, tAsg, tIf, tIfS, tVar, tC, tOp, tUn, rI, rI0, rU, tCB, tCons, tNil, tLst, tTup, tRet, gName, gCons, gNil, gSub, rSetL, tTest, tB, tNot, tAnd, tOr, tAndV, tOrV, tNotV, tNext, tDrop, tCall, tCallK, gKbV, tSl, tNoPart, tPart, tPar, rEq, rNe, tLc_eq, tFor_eq, iRng1, L2.start, cxOf, Cx.nox, goneAt]
        have he : (upd H' e (ExH e T.c_NoFruit d)) e = some (ExH e T.c_NoFruit d) := upd_same
        have hd2 : (upd H' e (ExH e T.c_NoFruit d)) d = some (.xd [(("what" : Str), .str f)]) := by rw [upd_ne (ne_of_none hd' ne)]; exact hd'
        refine ⟨e, T.c_NoFruit, d, _, _, _, true, rfl, he, hd2, T.is_NoFruit, .own _, T.ki_NoFruit_NoFruit, .inr ⟨rfl, by rw [sizeLine_eq]; decide, fun p np => ?_⟩⟩
        have sp := Same.new (o := .tup [V.ref T.c_NoRow, V.ref T.c_Stays]) np
        refine ⟨e, T.c_NoFruit, d, _, p, _, _, false, rfl, sp _ _ he, sp _ _ hd2, T.is_NoFruit, upd_same, .cons (.own _) (.cons (.own _) .nil), by simp [PySem.W.kitAny, T.ki_NoFruit_NoRow, T.ki_NoFruit_Stays], .inl ⟨rfl, ?_⟩⟩
        refine ⟨e, T.c_NoFruit, d, _, _, _, true, rfl, sp _ _ he, sp _ _ hd2, T.is_NoFruit, .ty _, T.kt_NoFruit_LookupError, .inr ⟨rfl, ?_⟩⟩
        exact ⟨.ref e, rfl, e, T.c_NoFruit, d, .str f, rfl, sp _ _ he, sp _ _ hd2, T.is_NoFruit, T.w_NoFruit.noN, q _ (sH.trans ((Same.new ne).trans sp))⟩
end
theorem sc__law_gone_right : FnScope ["_law_grove", "_law_names_here", "_law_off", "_law_plain", "_law_due", "_law_told", "_law_plum", "_law_lots", "_law_is_due", "_law_lot"] ["_law_grove", "_law_names_here", "_law_off"] (defScope s__law_gone_right) := ⟨rfl, rfl, rfl, by decide +kernel, rfl, by decide +kernel, by decide +kernel⟩
section
variable {P : Program} {w : World} {K : PySem.W.Frag} {mg : Str → Option Value} {base : Heap}
def sp__law_gone_right (K : PySem.W.Frag) : Sp := fun vs H Q _ => ∃ (v x : V) (G : List (Str × List (List Str))) (b : Addr) (o : List Str), vs = [v, x, .ref b] ∧ Dp K H v (grD G) ∧ (G.map (·.1)).Nodup ∧ G.length ≤ 60 ∧ (∀ p ∈ G, p.2.length ≤ 64 ∧ ∀ z ∈ p.2, z.length ≤ 64) ∧
  SqL K H b (o.map V.str) ∧ o.length ≤ 100 ∧ ∀ H', Same H H' → Q (.bl true) H'
def Pgone (H2 : Hp) (v x pl : V) (b due : Addr) (_ : Nat) (σ : L2.St) (H' : Hp) : Prop := ∃ y5 y6 y7 y8 y9 : Option V, σ = [some v, some x, some (.ref b), some pl, some (.ref due), y5, y6, y7, y8, y9] ∧ Same H2 H'
theorem ok__law_gone_right (T : Txt K mg) : FnOk P w K mg base CX0 8 T.f__law_gone_right T.fd__law_gone_right ["_law_grove", "_law_names_here", "_law_off"] (sp__law_gone_right K) := by
  refine T.F__law_gone_right.ok sc__law_gone_right (fun vs H Q E h => ?_) (fun cdv A outer s H vs Q E hr h => ?_)
  · obtain ⟨v, x, G, b, o, rfl, _⟩ := h
    rfl
  · obtain ⟨v, x, G, b, o, rfl, hd, nd, hl, hz, hb, ho, q⟩ := h
    have hz' : ∀ p ∈ G, p.2.length ≤ 1000 ∧ ∀ z ∈ p.2, z.length ≤ 1000 := fun p hp => ⟨by have := (hz p hp).1; omega, fun z hzz => by have := (hz p hp).2 z hzz; omega⟩
    refine ⟨_, (pss_cons (ps_set (i := 3) sc__law_gone_right.nd rfl (by first | exact Or.inl rfl | exact Or.inr rfl) (pe_call (ok__law_lists T 7) (hr.mono (by decide)) (by rfl) T.g__law_lists T.F__law_lists.kp T.b__law_lists .nil pass0 (pa_cons (pv 0) pa_nil)))
      (pss_cons (ps_set (i := 4) sc__law_gone_right.nd rfl (by first | exact Or.inl rfl | exact Or.inr rfl) (pe_call (ok__law_ripe T) (hr.mono (by decide)) (by rfl) T.g__law_ripe T.F__law_ripe.kp T.b__law_ripe .nil pass0 (pa_cons (pv 0) (pa_cons (pv 2) pa_nil))))
      (pss_cons (ps_set (i := 5) sc__law_gone_right.nd rfl (by first | exact Or.inl rfl | exact Or.inr rfl) (pe_lst (pa_cons (pe_call (ok_ripe T) (hr.mono (by decide)) (by rfl) T.g_ripe T.F_ripe.kp T.b_ripe .nil pass0 (pa_cons (pv 0) (pa_cons (pv 2) pa_nil))) (pa_cons (pe_callK0 (ok_ripe T) (hr.mono (by decide)) (by rfl) T.g_ripe T.F_ripe.kp T.kb_ripe pass0 (pk_cons (pe_callTy call_tuple_of (by rfl) T.m_tuple (by decide +kernel) (pa_cons (pv 2) pa_nil)) (pk_cons (pv 3) pk_nil))) pa_nil))))
      (pss_cons (ps_if (pt_not (pt_val (pe_call (ok__law_same T 7) (hr.mono (by decide)) (by rfl) T.g__law_same T.F__law_same.kp T.b__law_same .nil pass0 (pa_cons (pv 5) (pa_cons (pe_lst (pa_cons (pv 4) (pa_cons (pv 4) pa_nil))) pa_nil))))) (pss_one (ps_ret pe_bl)) pss_nil)
      (pss_cons (ps_expr (pe_bm PySem.F.plainAttrs_list PySem.F.slot_list_append PySem.F.type_list_append mt_append (pe_ix ix_list (pv 5) pe_int (fun _ _ => rfl)) (pa_cons pe_str pa_nil)))
      (pss_cons (ps_for PassesOwn.never rfl (pi_tup (pv 0)) (pg_tup rfl (pgs_cons (pg_name (i := 6) sc__law_gone_right.nd rfl (by first | exact Or.inl rfl | exact Or.inr rfl)) (pgs_cons (pg_name (i := 7) sc__law_gone_right.nd rfl (by first | exact Or.inl rfl | exact Or.inr rfl)) pgs_nil)))
      (pss_cons (ps_set (i := 8) sc__law_gone_right.nd rfl (by first | exact Or.inl rfl | exact Or.inr rfl) (pe_callB (cr_any rfl) (by rfl) T.m_any (by decide +kernel) (pa_cons (pe_lc (own := [("_law_lot", 9)]) (g := (gName 9)) (tt := tYes) (te := (tCall (sp__law_in K) [] E0 (tCons (tVar 9) (tCons (tVar 2) tNil)))) (by rfl) sc__law_gone_right.nd (pi_seq (pv 7)) (blkOk_by (own := [("_law_lot", 9)]) (N := ["_law_grove", "_law_names_here", "_law_off", "_law_plain", "_law_due", "_law_told", "_law_plum", "_law_lots", "_law_is_due", "_law_lot"]) (sc := defScope s__law_gone_right) (by decide +kernel)) (fun _ _ _ _ _ => (pg_name (i := 9) sc__law_gone_right.nd rfl (by first | exact Or.inl rfl | exact Or.inr rfl))) (fun _ _ _ _ _ => pts_nil) (fun _ _ _ _ _ => (pe_call (ok__law_in T) (hr.mono (by decide)) (by rfl) T.g__law_in T.F__law_in.kp T.b__law_in .nil pass0 (pa_cons (pv 9) (pa_cons (pv 2) pa_nil))))) pa_nil)))
      (pss_cons (ps_set (i := 5) sc__law_gone_right.nd rfl (by first | exact Or.inl rfl | exact Or.inr rfl) (pe_lst (pa_cons (pe_call (ok_is_ripe T) (hr.mono (by decide)) (by rfl) T.g_is_ripe T.F_is_ripe.kp T.b_is_ripe .nil passF (pa_cons (pv 0) (pa_cons (pv 6) (pa_cons (pv 2) pa_nil)))) (pa_cons (pe_callK0 (ok_is_ripe T) (hr.mono (by decide)) (by rfl) T.g_is_ripe T.F_is_ripe.kp T.kb_is_ripe passF (pk_cons (pe_callTy call_tuple_of (by rfl) T.m_tuple (by decide +kernel) (pa_cons (pv 2) pa_nil)) (pk_cons (pv 6) (pk_cons (pv 3) pk_nil)))) pa_nil))))
      (pss_one (ps_if (pt_not (pt_val (pe_call (ok__law_same T 7) (hr.mono (by decide)) (by rfl) T.g__law_same T.F__law_same.kp T.b__law_same .nil pass0 (pa_cons (pv 5) (pa_cons (pe_op op_rep (pe_lst (pa_cons (pv 8) pa_nil)) pe_int) pa_nil))))) (pss_one (ps_ret pe_bl)) pss_nil)))))
      (pss_one (ps_ret (pe_call (ok__law_same T 7) (hr.mono (by decide)) (by rfl) T.g__law_same T.F__law_same.kp T.b__law_same .nil pass0 (pa_cons (pe_call (ok_ripe T) (hr.mono (by decide)) (by rfl) T.g_ripe T.F_ripe.kp T.b_ripe .nil pass0 (pa_cons (pv 0) (pa_cons (pv 2) pa_nil))) (pa_cons (pv 4) pa_nil))))))))))), ?_⟩
    simp [tSeq, tAsg, tIf, tIfS, tVar, tC, tOp, tUn, rI, rI0, rU, tCB, tCons, tNil, tLst, tTup, tRet, gName, gCons, gNil, gSub, rSetL, tTest, tB, tNot, tAnd, tOr, tAndV, tOrV, tNotV, tNext, tDrop, tCall, tCallK, gKbV, tSl, tNoPart, tPart, tPar, rEq, rNe, tLc_eq, tFor_eq, iRng1, L2.start, cxOf, Cx.nox]
    have deepG : Deep 6 (grD G) := deep_gr 2 (by omega) hz'
    refine ⟨v, _, rfl, hd, deepG, fun pl H1 s1 d1 => ?_⟩
    have d1' := Dp.same (news_in H H1) d1
    refine ⟨v, G, b, o, rfl, Dp.same s1 hd, by omega, hz', .inl (s1.seq hb), fun due H2 n2 s2 e2 => ?_⟩
    have sz2 : 2 ≤ sizeLine := by rw [sizeLine_eq]; decide
    have rl := ripe_le (G := G) (o := o)
    have s12 := s1.trans s2
    refine ⟨v, _, G, b, o, rfl, Dp.same s12 hd, flat_gr G, by omega, hz', .inl (s12.seq hb), fun r1 H3 n3 s3 e3 => ?_⟩
    refine ⟨_, .inl ⟨(s12.trans s3).seq hb, fun l nl => ?_⟩⟩
    have sl := Same.new (o := .tup (o.map V.str)) nl
    refine ⟨pl, _, G, l, o, rfl, Dp.same (s2.trans (s3.trans sl)) d1', (flat_listy _).trans (flat_gr G), by omega, hz', .inr (.inl (.inl upd_same)), fun r2 H4 n4 s4 e4 => ⟨sz2, fun p np => ⟨sz2, fun p1 np1 => ?_⟩⟩⟩
    have sp := Same.new (o := .lst [V.ref r1, V.ref r2]) np
    have sp1 := Same.new (o := .lst [V.ref due, V.ref due]) np1
    have f1 := sp1 _ _ (sp _ _ (s4 _ _ (sl _ _ e3)))
    have f2 := sp1 _ _ (sp _ _ e4)
    have fd := sp1 _ _ (sp _ _ (s4 _ _ (sl _ _ (s3 _ _ e2))))
    have fp : (upd (upd H4 p (.lst [V.ref r1, V.ref r2])) p1 (.lst [V.ref due, V.ref due])) p = _ := sp1 _ _ upd_same
    have s25 : Same H2 _ := s3.trans (sl.trans (s4.trans (sp.trans sp1)))
    have fp1 : (upd (upd H4 p (.lst [V.ref r1, V.ref r2])) p1 (.lst [V.ref due, V.ref due])) p1 = _ := upd_same
    generalize upd (upd H4 p (.lst [V.ref r1, V.ref r2])) p1 (.lst [V.ref due, V.ref due]) = H5 at f1 f2 fd fp fp1 s25
    have li : ∀ {r : Addr}, H5 r = some (.lst ((ripeG G o).map V.str)) → Dp K H5 (.ref r) (.list ((ripeG G o).map .str)) := fun h => .lst (.inl (.inl h)) (dpAll_strs _)
    refine ⟨.ref p, .ref p1, .list [.list ((ripeG G o).map .str), .list ((ripeG G o).map .str)], rfl, .lst (.inl (.inl fp)) (.cons (li f1) (.cons (li f2) .nil)), .lst (.inl (.inl fp1)) (.cons (li fd) (.cons (li fd) .nil)), ⟨by simp, fun d hd => ?_⟩, fun H6 s6 => .inr ⟨rfl, ?_⟩⟩
    · have : d = .list ((ripeG G o).map .str) := by simpa using hd
      rw [this]; exact deep_li 4 (by omega)
    · simp [tSeq, tAsg, tIf, tIfS, tVar, tC, tOp, tUn, rI, rI0, rU, tCB, tCons, tNil, tLst, tTup, tRet, gName, gCons, gNil, gSub, rSetL, tTest, tB, tNot, tAnd, tOr, tAndV, tOrV, tNotV, tNext, tDrop, tCall, tCallK, gKbV, tSl, tNoPart, tPart, tPar, rEq, rNe, tLc_eq, tFor_eq, iRng1, L2.start, cxOf, Cx.nox, tBM, rAppend]
      refine ixLH (s6 _ _ fp) rfl ⟨.inl ⟨rfl, _, .inl (.inl (s6 _ _ f1))⟩, r1, rfl, _, s6 _ _ f1, by rw [List.length_map, sizeLine_eq]; omega, ?_⟩
      have s27 : Same H2 (upd H6 r1 (.lst ((ripeG G o).map V.str ++ [V.str (Str.ofString "more")]))) := fun c u e => by
        rw [upd_ne (ne_of_none e n3)]; exact s6 _ _ (s25 _ _ e)
      generalize upd H6 r1 (.lst ((ripeG G o).map V.str ++ [V.str (Str.ofString "more")])) = H7 at s27
      clear fp fp1 f1 f2 fd li s6 s25 sp sp1 np np1 e3 e4 n4 sl
      cases hd with
      | @tup a xs _ sa da =>
      have lx := DpAll.len da
      rw [List.length_map] at lx
      have s07 := s12.trans s27
      refine ⟨.ref a, rfl, a, rfl, ⟨_, Same.seqT s07 sa⟩, ?_⟩
      refine frK (walk_tup (xs := xs)) (Pgone H2 (.ref a) x pl b due) ⟨_, _, _, _, _, rfl, s27⟩ (fun i σ H' _ h => ?_) (fun i y σ H8 H9 hi hp hy => ?_) (fun σ H' hp => ?_)
      · obtain ⟨y5, y6, y7, y8, y9, rfl, sH⟩ := h
        exact Same.seqT (s12.trans sH) sa
      · obtain ⟨y5, y6, y7, y8, y9, rfl, sH⟩ := hp
        obtain ⟨rfl, hx'⟩ := hy
        obtain ⟨dx, e1, h1⟩ := DpAll.at da hx'
        rw [List.getElem?_map] at e1
        obtain ⟨g, eg, rfl⟩ := Option.map_eq_some_iff.mp e1
        obtain ⟨c, ll, rfl, hc, hdl⟩ := pair_of h1
        have gm := List.mem_of_getElem? eg
        have look := look_nd nd gm
        have sH0 := s12.trans sH
        refine gTup2 (Same.seqT sH0 hc) ?_
        simp [tSeq, tAsg, tIf, tIfS, tVar, tC, tOp, tUn, rI, rI0, rU, tCB, tCons, tNil, tLst, tTup, tRet, gName, gCons, gNil, gSub, rSetL, tTest, tB, tNot, tAnd, tOr, tAndV, tOrV, tNotV, tNext, tDrop, tCall, tCallK, gKbV, tSl, tNoPart, tPart, tPar, rEq, rNe, tLc_eq, tFor_eq, iRng1, L2.start, cxOf, Cx.nox]
        cases hdl with
        | @tup b2 ws _ sw dw =>
        have lw := DpAll.len dw
        rw [List.length_map] at lw
        refine walk_any rfl (.inr (Same.seqT sH0 sw)) fun J wk => lcK wk (Phow H9 g.2 o) (fun D nD => ⟨Same.new nD, upd_same⟩) (fun D i H' _ h => h.1) (fun D3 i' x' Ha Hb nD3 hi' hp' hy' => ?_) (fun D3 Hg nD3 hp' => ?_)
        · obtain ⟨rfl, hx2⟩ := hy'
          obtain ⟨d2, g1, g2⟩ := DpAll.at dw hx2
          rw [List.getElem?_map] at g1
          obtain ⟨z, ez, rfl⟩ := Option.map_eq_some_iff.mp g1
          obtain ⟨c2, rfl, hc2⟩ := lot_of g2 (flat_tx z)
          simp [tSeq, tAsg, tIf, tIfS, tVar, tC, tOp, tUn, rI, rI0, rU, tCB, tCons, tNil, tLst, tTup, tRet, gName, gCons, gNil, gSub, rSetL, tTest, tB, tNot, tAnd, tOr, tAndV, tOrV, tNotV, tNext, tDrop, tCall, tCallK, gKbV, tSl, tNoPart, tPart, tPar, rEq, rNe, tLc_eq, tFor_eq, iRng1, L2.start, cxOf, Cx.nox, wipe, tYes]
          refine ⟨c2, b, z, o, rfl, seq_same (sH0.trans hp'.1) hc2, .inl ((sH0.trans hp'.1).seq hb), (hz' g gm).2 z (List.mem_of_getElem? ez), fun H' s4 => ?_⟩
          refine ⟨_, s4 _ _ hp'.2, by have := (hz' g gm).1; rw [List.length_map, List.length_take, sizeLine_eq]; omega, fun c u e => by rw [upd_ne (ne_of_none e nD3)]; exact s4 _ _ (hp'.1 _ _ e), ?_⟩
          rw [upd_same, take_at ez, List.map_append]; rfl
        · rw [lw, Phow, List.take_length] at hp'
          refine ⟨D3, g.2.map fun z => inAll z o, rfl, .inl (.inl (by rw [hp'.2, List.map_map]; rfl)), ?_⟩
          rw [inOne_map]
          have sg := sH0.trans hp'.1
          have dg : Dp K H (.ref a) (grD G) := .tup sa da
          simp [tSeq, tAsg, tIf, tIfS, tVar, tC, tOp, tUn, rI, rI0, rU, tCB, tCons, tNil, tLst, tTup, tRet, gName, gCons, gNil, gSub, rSetL, tTest, tB, tNot, tAnd, tOr, tAndV, tOrV, tNotV, tNext, tDrop, tCall, tCallK, gKbV, tSl, tNoPart, tPart, tPar, rEq, rNe, tLc_eq, tFor_eq, iRng1, L2.start, cxOf, Cx.nox]
          refine ⟨.ref a, _, G, g.1, b, o, rfl, Dp.same sg dg, flat_gr G, by omega, hz', .inl (sg.seq hb), fun ls el H10 s10 => ?_, fun e => absurd (look.symm.trans e) (by simp)⟩
          rw [look] at el
          cases el
          have sA := sg.trans s10
          refine ⟨_, .inl ⟨sA.seq hb, fun l2 nl2 => ?_⟩⟩
          have sl2 := Same.new (o := .tup (o.map V.str)) nl2
          have sB : Same H2 (upd H10 l2 (.tup (o.map V.str))) := sH.trans (hp'.1.trans (s10.trans sl2))
          refine ⟨pl, _, G, g.1, l2, o, rfl, Dp.same (s2.trans sB) d1', (flat_listy _).trans (flat_gr G), by omega, hz', .inr (.inl (.inl upd_same)), fun ls el H11 s11 => ⟨sz2, fun p np => ⟨by rw [sizeLine_eq]; decide, fun p1 np1 => ?_⟩⟩, fun e => absurd (look.symm.trans e) (by simp)⟩
          rw [look] at el
          cases el
          have sp := Same.new (o := .lst [V.bl (inOne g.2 o), V.bl (inOne g.2 o)]) np
          have sp1 := Same.new (o := .lst [V.bl (inOne g.2 o)]) np1
          refine ⟨p1, 2, [V.bl (inOne g.2 o)], rfl, rfl, upd_same, by decide, by decide, by rw [sizeLine_eq]; simp, fun r nr => ?_⟩
          have sr := Same.new (o := .lst [V.bl (inOne g.2 o), V.bl (inOne g.2 o)]) nr
          refine ⟨.ref p, .ref r, .list [.bool (inOne g.2 o), .bool (inOne g.2 o)], rfl, .lst (.inl (.inl (sr _ _ (sp1 _ _ upd_same)))) (.cons (.bl _) (.cons (.bl _) .nil)), .lst (.inl (.inl upd_same)) (.cons (.bl _) (.cons (.bl _) .nil)), ⟨by simp, fun d hd => ?_⟩, fun H12 s12' => .inr ⟨rfl, _, _, _, _, _, rfl, sB.trans (s11.trans (sp.trans (sp1.trans (sr.trans s12'))))⟩⟩
          have : d = .bool (inOne g.2 o) := by simpa using hd
          rw [this]; simp [Deep]
      · obtain ⟨y5, y6, y7, y8, y9, rfl, sH⟩ := hp
        simp [tSeq, tAsg, tIf, tIfS, tVar, tC, tOp, tUn, rI, rI0, rU, tCB, tCons, tNil, tLst, tTup, tRet, gName, gCons, gNil, gSub, rSetL, tTest, tB, tNot, tAnd, tOr, tAndV, tOrV, tNotV, tNext, tDrop, tCall, tCallK, gKbV, tSl, tNoPart, tPart, tPar, rEq, rNe, tLc_eq, tFor_eq, iRng1, L2.start, cxOf, Cx.nox]
        have sH0 := s12.trans sH
        refine ⟨.ref a, _, G, b, o, rfl, Dp.same sH0 (.tup sa da), flat_gr G, by omega, hz', .inl (sH0.seq hb), fun r9 H9 n9 s9 e9 => ?_⟩
        exact ⟨.ref r9, .ref due, .list ((ripeG G o).map .str), rfl, .lst (.inl (.inl e9)) (dpAll_strs _), .lst (.inl (.inl (s9 _ _ (sH _ _ e2)))) (dpAll_strs _), deep_li 5 (by omega), fun H10 s10 => q _ (sH0.trans (s9.trans s10))⟩
end
theorem sc__law_six_right : FnScope ["_law_names_here", "_law_pairs_here", "_law_grove", "_law_name", "_law_at", "_law_upto"] ["_law_names_here"] (defScope s__law_six_right) := ⟨rfl, rfl, rfl, by decide +kernel, rfl, by decide +kernel, by decide +kernel⟩
section
variable {P : Program} {w : World} {K : PySem.W.Frag} {mg : Str → Option Value} {base : Heap}
def sp__law_six_right (K : PySem.W.Frag) : Sp := fun vs H Q _ => ∃ (a : Addr) (zs : List Str), vs = [.ref a] ∧ H a = some (.lst (zs.map V.str)) ∧ zs.length = 8 ∧ zs.Nodup ∧ (∀ z ∈ zs, IsName z) ∧ ∀ H', Same H H' → Q (.bl true) H'
def Psix (K : PySem.W.Frag) (H : Hp) (us : List Str) (D : Addr) (i : Nat) (H' : Hp) : Prop := ∃ vs : List V, Same H (mask D H') ∧ H' D = some (.lst vs) ∧ vs.length = i ∧ DpAll K (mask D H') vs ((us.take i).map fun z => prD (z, [[]]))
def Pone (K : PySem.W.Frag) (H : Hp) (us : List Str) (D : Addr) (i : Nat) (H' : Hp) : Prop := ∃ vs : List V, Same H (mask D H') ∧ H' D = some (.lst vs) ∧ vs.length = i ∧ DpAll K (mask D H') vs ((us.take i).map fun z => liD [z])
theorem ok__law_six_right (T : Txt K mg) : FnOk P w K mg base CX0 9 T.f__law_six_right T.fd__law_six_right ["_law_names_here"] (sp__law_six_right K) := by
  refine T.F__law_six_right.ok sc__law_six_right (fun vs H Q E h => ?_) (fun cdv A outer s H vs Q E hr h => ?_)
  · obtain ⟨a, zs, rfl, _⟩ := h
    rfl
  · obtain ⟨a, zs, rfl, ha, lz, nd, nm, q⟩ := h
    refine ⟨_, (pss_cons (ps_set (i := 1) sc__law_six_right.nd rfl (by first | exact Or.inl rfl | exact Or.inr rfl) (pe_op op_cat (pe_lc (own := [("_law_name", 3)]) (g := (gName 3)) (tt := tYes) (te := (tTup (tCons (tVar 3) (tCons (tLst (tCons (tLst tNil) tNil)) tNil)))) (by rfl) sc__law_six_right.nd (pi_seq (pe_slice sl_list (pv 0) po_none (po_some pe_int))) (blkOk_by (own := [("_law_name", 3)]) (N := ["_law_names_here", "_law_pairs_here", "_law_grove", "_law_name", "_law_at", "_law_upto"]) (sc := defScope s__law_six_right) (by decide +kernel)) (fun _ _ _ _ _ => (pg_name (i := 3) sc__law_six_right.nd rfl (by first | exact Or.inl rfl | exact Or.inr rfl))) (fun _ _ _ _ _ => pts_nil) (fun _ _ _ _ _ => (pe_tup (pa_cons (pv 3) (pa_cons (pe_lst (pa_cons (pe_lst pa_nil) pa_nil)) pa_nil))))) (pe_lst (pa_cons (pe_tup (pa_cons (pe_ix ix_list (pv 0) pe_int (fun _ _ => rfl)) (pa_cons (pe_lc (own := [("_law_name", 3)]) (g := (gName 3)) (tt := tYes) (te := (tLst (tCons (tVar 3) tNil))) (by rfl) sc__law_six_right.nd (pi_seq (pe_slice sl_list (pv 0) po_none (po_some pe_int))) (blkOk_by (own := [("_law_name", 3)]) (N := ["_law_names_here", "_law_pairs_here", "_law_grove", "_law_name", "_law_at", "_law_upto"]) (sc := defScope s__law_six_right) (by decide +kernel)) (fun _ _ _ _ _ => (pg_name (i := 3) sc__law_six_right.nd rfl (by first | exact Or.inl rfl | exact Or.inr rfl))) (fun _ _ _ _ _ => pts_nil) (fun _ _ _ _ _ => (pe_lst (pa_cons (pv 3) pa_nil)))) pa_nil))) (pa_cons (pe_tup (pa_cons (pe_ix ix_list (pv 0) pe_int (fun _ _ => rfl)) (pa_cons (pe_lst (pa_cons (pe_slice sl_list (pv 0) po_none (po_some pe_int)) pa_nil)) pa_nil))) pa_nil)))))
      (pss_cons (ps_set (i := 2) sc__law_six_right.nd rfl (by first | exact Or.inl rfl | exact Or.inr rfl) (pe_call (ok__law_made T) (hr.mono (by decide)) (by rfl) T.g__law_made T.F__law_made.kp T.b__law_made .nil pass0 (pa_cons (pv 1) pa_nil)))
      (pss_one (ps_ret (pe_callB (cr_all rfl) (by rfl) T.m_all (by decide +kernel) (pa_cons (pe_lc (own := [("_law_at", 4), ("_law_upto", 5)]) (g := (gTup K 2 (gCons (gName 4) (gCons (gName 5) gNil)))) (tt := tYes) (te := (tCall (sp__law_gone_right K) [] E0 (tCons (tVar 2) (tCons (tVar 0) (tCons (tSl (rSlL K) (tVar 0) (tPart (tVar 4)) (tPart (tVar 5))) tNil))))) (by rfl) sc__law_six_right.nd (pi_tup (pe_tup (pa_cons (pe_tup (pa_cons pe_int (pa_cons pe_int pa_nil))) (pa_cons (pe_tup (pa_cons pe_int (pa_cons pe_int pa_nil))) (pa_cons (pe_tup (pa_cons pe_int (pa_cons pe_int pa_nil))) (pa_cons (pe_tup (pa_cons pe_int (pa_cons pe_int pa_nil))) pa_nil)))))) (blkOk_by (own := [("_law_at", 4), ("_law_upto", 5)]) (N := ["_law_names_here", "_law_pairs_here", "_law_grove", "_law_name", "_law_at", "_law_upto"]) (sc := defScope s__law_six_right) (by decide +kernel)) (fun _ _ _ _ _ => (pg_tup rfl (pgs_cons (pg_name (i := 4) sc__law_six_right.nd rfl (by first | exact Or.inl rfl | exact Or.inr rfl)) (pgs_cons (pg_name (i := 5) sc__law_six_right.nd rfl (by first | exact Or.inl rfl | exact Or.inr rfl)) pgs_nil)))) (fun _ _ _ _ _ => pts_nil) (fun _ _ _ _ _ => (pe_call (ok__law_gone_right T) (hr.mono (by decide)) (by rfl) T.g__law_gone_right T.F__law_gone_right.kp T.b__law_gone_right .nil pass0 (pa_cons (pv 2) (pa_cons (pv 0) (pa_cons (pe_slice sl_list (pv 0) (po_some (pv 4)) (po_some (pv 5))) pa_nil)))))) pa_nil)))))), ?_⟩
    simp [tSeq, tAsg, tIf, tIfS, tVar, tC, tOp, tUn, rI, rI0, rU, tCB, tCons, tNil, tLst, tTup, tRet, gName, gCons, gNil, gSub, rSetL, tTest, tB, tNot, tAnd, tOr, tAndV, tOrV, tNotV, tNext, tDrop, tCall, tCallK, gKbV, tSl, tNoPart, tPart, tPar, rEq, rNe, tLc_eq, tFor_eq, iRng1, L2.start, cxOf, Cx.nox]
    have szl : ∀ k : Nat, k ≤ 1000 → k ≤ sizeLine := fun k h => by rw [sizeLine_eq]; omega
    have cut6 : cutV (zs.map V.str) none (some 6) = (zs.take 6).map V.str := by rw [List.map_take]; exact cutV_to _ 6
    refine .inl ⟨.ref a, rfl, 6, rfl, a, _, rfl, .inl (.inl ha), fun c1 n1 => ⟨c1, rfl, ⟨_, .inl (.inl upd_same)⟩, ?_⟩⟩
    rw [cut6]
    have s1 := Same.new (o := .lst ((zs.take 6).map V.str)) n1
    have f1 : (upd H c1 (.lst ((zs.take 6).map V.str))) c1 = _ := upd_same
    generalize upd H c1 (.lst ((zs.take 6).map V.str)) = H1 at s1 f1
    have l6 : (zs.take 6).length = 6 := by rw [List.length_take]; omega
    refine lcK (walk_list (xs := (zs.take 6).map V.str)) (Psix K H1 (zs.take 6)) (fun D nD => ⟨[], mask_into nD (Same.new nD), upd_same, rfl, .nil⟩) (fun D i H' _ h => h.elim fun _ h => .inl (.inl (mask_to h.1 _ _ f1))) (fun D i x Ha Hb nD hi hp hy => ?_) (fun D Hg nD hp => ?_)
    · obtain ⟨vs, t1, eD, lv, dv⟩ := hp
      obtain ⟨rfl, hx'⟩ := hy
      obtain ⟨z, ez, rfl⟩ := strs_at hx'
      simp [tSeq, tAsg, tIf, tIfS, tVar, tC, tOp, tUn, rI, rI0, rU, tCB, tCons, tNil, tLst, tTup, tRet, gName, gCons, gNil, gSub, rSetL, tTest, tB, tNot, tAnd, tOr, tAndV, tOrV, tNotV, tNext, tDrop, tCall, tCallK, gKbV, tSl, tNoPart, tPart, tPar, rEq, rNe, tLc_eq, tFor_eq, iRng1, L2.start, cxOf, Cx.nox, wipe, tYes]
      rw [List.length_map, l6] at hi
      intro p np
      refine ⟨szl _ (by decide), fun p1 np1 => ⟨szl _ (by decide), fun p2 np2 => ?_⟩⟩
      have m0 := Same.new (o := .lst []) np
      have m1 := Same.new (o := .lst [V.ref p]) np1
      have m2 := Same.new (o := .tup [V.str z, V.ref p1]) np2
      have mm := m0.trans (m1.trans m2)
      have d0 : ∀ {b : Addr}, Hb b = none → b ≠ D := fun {b} e zz => by rw [zz, eD] at e; cases e
      have pD := d0 np
      have p1D : p1 ≠ D := fun zz => by rw [zz, m0 _ _ eD] at np1; cases np1
      have p2D : p2 ≠ D := fun zz => by rw [zz, m1 _ _ (m0 _ _ eD)] at np2; cases np2
      refine ⟨vs, mm _ _ eD, by rw [sizeLine_eq]; omega, vs ++ [.ref p2], ?_, upd_same, by simp [lv], ?_⟩
      · rw [mask_upd]; exact t1.trans (mask_on mm)
      · rw [mask_upd, take_at ez, List.map_append]
        refine Rp.DpAll.snoc (Rp.DpAll.same (mask_on mm) dv) (.tup (.inl (.inl (by rw [mask_ne p2D]; exact upd_same))) (.cons (.str _) (.cons (.lst (.inl (.inl (by rw [mask_ne p1D]; exact m2 _ _ upd_same))) (.cons (.lst (.inl (.inl (by rw [mask_ne pD]; exact m2 _ _ (m1 _ _ upd_same)))) .nil) .nil)) .nil)))
    · obtain ⟨vs, t1, eD, lv, dv⟩ := hp
      rw [List.length_map, List.take_length] at dv
      have s2 := mask_to t1
      have lv6 : vs.length = 6 := by rw [lv, List.length_map, l6]
      have dv2 := Rp.DpAll.same (mask_same D Hg) dv
      have sHg := s1.trans s2
      have g6 : ∃ z6, zs[6]? = some z6 := ⟨_, List.getElem?_eq_getElem (by omega)⟩
      have g7 : ∃ z7, zs[7]? = some z7 := ⟨_, List.getElem?_eq_getElem (by omega)⟩
      obtain ⟨z6, e6⟩ := g6
      obtain ⟨z7, e7⟩ := g7
      have at6 : atI (zs.map V.str) 6 = some (.str z6) := by
        have := atI_nat (xs := zs.map V.str) (j := 6) (v := .str z6) (by rw [List.getElem?_map, e6]; rfl)
        exact this
      have at7 : atI (zs.map V.str) 7 = some (.str z7) := by
        have := atI_nat (xs := zs.map V.str) (j := 7) (v := .str z7) (by rw [List.getElem?_map, e7]; rfl)
        exact this
      refine ixLH (sHg _ _ ha) at6 ?_
      refine .inl ⟨.ref a, rfl, 6, rfl, a, _, rfl, .inl (.inl (sHg _ _ ha)), fun c2 n2 => ⟨c2, rfl, ⟨_, .inl (.inl upd_same)⟩, ?_⟩⟩
      rw [cut6]
      have s3 := Same.new (o := .lst ((zs.take 6).map V.str)) n2
      have f3 : (upd Hg c2 (.lst ((zs.take 6).map V.str))) c2 = _ := upd_same
      generalize upd Hg c2 (.lst ((zs.take 6).map V.str)) = H3 at s3 f3
      refine lcK (walk_list (xs := (zs.take 6).map V.str)) (Pone K H3 (zs.take 6)) (fun D nD => ⟨[], mask_into nD (Same.new nD), upd_same, rfl, .nil⟩) (fun D i H' _ h => h.elim fun _ h => .inl (.inl (mask_to h.1 _ _ f3))) (fun D2 i x Ha Hb nD2 hi hp hy => ?_) (fun D2 H4 nD2 hp => ?_)
      · obtain ⟨ws, t2, eD2, lw, dw⟩ := hp
        obtain ⟨rfl, hx'⟩ := hy
        obtain ⟨z, ez, rfl⟩ := strs_at hx'
        simp [tSeq, tAsg, tIf, tIfS, tVar, tC, tOp, tUn, rI, rI0, rU, tCB, tCons, tNil, tLst, tTup, tRet, gName, gCons, gNil, gSub, rSetL, tTest, tB, tNot, tAnd, tOr, tAndV, tOrV, tNotV, tNext, tDrop, tCall, tCallK, gKbV, tSl, tNoPart, tPart, tPar, rEq, rNe, tLc_eq, tFor_eq, iRng1, L2.start, cxOf, Cx.nox, wipe, tYes]
        rw [List.length_map, l6] at hi
        refine ⟨szl _ (by decide), fun p np => ?_⟩
        have m0 := Same.new (o := .lst [V.str z]) np
        have pD : p ≠ D2 := fun zz => by rw [zz, eD2] at np; cases np
        refine ⟨ws, m0 _ _ eD2, by rw [sizeLine_eq]; omega, ws ++ [.ref p], ?_, upd_same, by simp [lw], ?_⟩
        · rw [mask_upd]; exact t2.trans (mask_on m0)
        · rw [mask_upd, take_at ez, List.map_append]
          exact Rp.DpAll.snoc (Rp.DpAll.same (mask_on m0) dw) (.lst (.inl (.inl (by rw [mask_ne pD]; exact upd_same))) (.cons (.str _) .nil))
      · obtain ⟨ws, t2, eD2, lw, dw⟩ := hp
        rw [List.length_map, List.take_length] at dw
        have s4 := mask_to t2
        have dw2 := Rp.DpAll.same (mask_same D2 H4) dw
        have sH4 := sHg.trans (s3.trans s4)
        refine ⟨szl _ (by decide), fun p np => ?_⟩
        have mp := Same.new (o := .tup [V.str z6, V.ref D2]) np
        refine ixLH (mp _ _ (sH4 _ _ ha)) at7 ⟨a, _, rfl, .inl (.inl (mp _ _ (sH4 _ _ ha))), fun c3 n3 => ?_⟩
        rw [cut6]
        have m3 := Same.new (o := .lst ((zs.take 6).map V.str)) n3
        refine ⟨szl _ (by decide), fun q1 nq1 => ⟨szl _ (by decide), fun q2 nq2 => ⟨szl _ (by decide), fun q3 nq3 => ?_⟩⟩⟩
        have m4 := Same.new (o := .lst [V.ref c3]) nq1
        have m5 := Same.new (o := .tup [V.str z7, V.ref q1]) nq2
        have m6 := Same.new (o := .lst [V.ref p, V.ref q2]) nq3
        have eD4 := s4 _ _ (s3 _ _ eD)
        refine ⟨D, q3, vs, _, rfl, rfl, m6 _ _ (m5 _ _ (m4 _ _ (m3 _ _ (mp _ _ eD4)))), upd_same, by rw [lv6, sizeLine_eq]; simp, fun q4 nq4 => ?_⟩
        have m7 := Same.new (o := .lst (vs ++ [V.ref p, V.ref q2])) nq4
        have S4 := mp.trans (m3.trans (m4.trans (m5.trans (m6.trans m7))))
        have bp := m7 _ _ (m6 _ _ (m5 _ _ (m4 _ _ (m3 _ _ (upd_same (H := H4) (a := p) (o := .tup [V.str z6, V.ref D2]))))))
        have bc := m7 _ _ (m6 _ _ (m5 _ _ (m4 _ _ (upd_same (H := upd H4 p (.tup [V.str z6, V.ref D2])) (a := c3) (o := .lst ((zs.take 6).map V.str))))))
        have bq1 := m7 _ _ (m6 _ _ (m5 _ _ (upd_same (H := upd (upd H4 p (.tup [V.str z6, V.ref D2])) c3 (.lst ((zs.take 6).map V.str))) (a := q1) (o := .lst [V.ref c3]))))
        have bq2 := m7 _ _ (m6 _ _ (upd_same (H := upd (upd (upd H4 p (.tup [V.str z6, V.ref D2])) c3 (.lst ((zs.take 6).map V.str))) q1 (.lst [V.ref c3])) (a := q2) (o := .tup [V.str z7, V.ref q1])))
        have bq4 := upd_same (H := upd (upd (upd (upd (upd H4 p (.tup [V.str z6, V.ref D2])) c3 (.lst ((zs.take 6).map V.str))) q1 (.lst [V.ref c3])) q2 (.tup [V.str z7, V.ref q1])) q3 (.lst [V.ref p, V.ref q2])) (a := q4) (o := .lst (vs ++ [V.ref p, V.ref q2]))
        have S0 := sH4.trans S4
        generalize upd (upd (upd (upd (upd (upd H4 p (.tup [V.str z6, V.ref D2])) c3 (.lst ((zs.take 6).map V.str))) q1 (.lst [V.ref c3])) q2 (.tup [V.str z7, V.ref q1])) q3 (.lst [V.ref p, V.ref q2])) q4 (.lst (vs ++ [V.ref p, V.ref q2])) = HF at S4 S0 bp bc bq1 bq2 bq4
        clear mp m3 m4 m5 m6 m7 np n3 nq1 nq2 nq3 nq4
        obtain ⟨ps, eps⟩ : ∃ ps : List (Str × List (List Str)), ps = ((zs.take 6).map fun z => (z, [[]])) ++ [(z6, (zs.take 6).map fun z => [z])] ++ [(z7, [zs.take 6])] := ⟨_, rfl⟩
        have dps : DpAll K HF (vs ++ [V.ref p, V.ref q2]) (ps.map prD) := by
          rw [eps, show vs ++ [V.ref p, V.ref q2] = vs ++ [V.ref p] ++ [V.ref q2] by simp, List.map_append, List.map_append, List.map_map]
          refine Rp.DpAll.snoc (Rp.DpAll.snoc (Rp.DpAll.same (s3.trans (s4.trans S4)) dv2) ?_) ?_
          · exact .tup (.inl (.inl bp)) (.cons (.str _) (.cons (.lst (.inl (.inl (S4 _ _ eD2))) (by rw [List.map_map]; exact Rp.DpAll.same S4 dw2)) .nil))
          · exact .tup (.inl (.inl bq2)) (.cons (.str _) (.cons (.lst (.inl (.inl bq1)) (.cons (.lst (.inl (.inl bc)) (dpAll_strs _)) .nil)) .nil))
        have fst : ps.map (·.1) = zs := by
          rw [eps]
          simp only [List.map_append, List.map_map, List.map_cons, List.map_nil]
          have e0 : (zs.take 6).map ((fun x : Str × List (List Str) => x.1) ∘ fun z => (z, [[]])) = zs.take 6 := by
            rw [show ((fun x : Str × List (List Str) => x.1) ∘ fun z : Str => (z, [[]])) = id from rfl, List.map_id]
          rw [e0, ← take_at e6, ← take_at e7]
          exact List.take_of_length_le (by omega)
        have lots : ∀ p ∈ ps, p.2.length < 60 ∧ ∀ z ∈ p.2, z.length < 60 ∧ ∀ x ∈ z, x ∈ zs := by
          intro p hp
          rw [eps] at hp
          rcases List.mem_append.mp hp with hp | hp
          · rcases List.mem_append.mp hp with hp | hp
            · obtain ⟨z, hz, rfl⟩ := List.mem_map.mp hp
              exact ⟨by simp, fun y hy => by
                rw [List.mem_singleton.mp hy]
                exact ⟨by decide, fun x hx => (by cases hx)⟩⟩
            · rw [List.mem_singleton.mp hp]
              refine ⟨by rw [List.length_map, l6]; decide, fun y hy => ?_⟩
              obtain ⟨z, hz, rfl⟩ := List.mem_map.mp hy
              exact ⟨by simp, fun x hx => by rw [List.mem_singleton.mp hx]; exact List.mem_of_mem_take hz⟩
          · rw [List.mem_singleton.mp hp]
            refine ⟨by simp, fun y hy => ?_⟩
            rw [List.mem_singleton.mp hy]
            exact ⟨by rw [l6]; decide, fun x hx => List.mem_of_mem_take hx⟩
        have lps : ps.length = 8 := by rw [← List.length_map (f := (·.1)), fst, lz]
        refine ⟨.ref q4, ps, rfl, .lst (.inl (.inl bq4)) dps, by omega, fun p hp => ⟨(lots p hp).1, fun z hz => ⟨((lots p hp).2 z hz).1, fun x hx => name_ok (nm x (((lots p hp).2 z hz).2 x hx))⟩⟩, fun G v' H8 s8 d8 pmG hG => ?_⟩
        rw [fst] at pmG
        have ndG := pmG.nodup_iff.mpr nd
        have lG : G.length = 8 := by
          have := pmG.length_eq
          rw [List.length_map] at this; omega
        have dG := Dp.same (news_in HF H8) d8
        have zG : ∀ g ∈ G, g.2.length ≤ 64 ∧ ∀ z ∈ g.2, z.length ≤ 64 := fun g hg => ⟨by have := (hG g hg).1; omega, fun z hz => by
          obtain ⟨p, hp, y, hy, pm⟩ := (hG g hg).2 z hz
          have := ((lots p hp).2 y hy).1
          rw [pm.length_eq]; omega⟩
        have S8 := S0.trans s8
        simp [tSeq, tAsg, tIf, tIfS, tVar, tC, tOp, tUn, rI, rI0, rU, tCB, tCons, tNil, tLst, tTup, tRet, gName, gCons, gNil, gSub, rSetL, tTest, tB, tNot, tAnd, tOr, tAndV, tOrV, tNotV, tNext, tDrop, tCall, tCallK, gKbV, tSl, tNoPart, tPart, tPar, rEq, rNe, tLc_eq, tFor_eq, iRng1, L2.start, cxOf, Cx.nox, iTup]
        refine ⟨szl _ (by decide), fun t0 h0 => ⟨szl _ (by decide), fun t1 h1 => ⟨szl _ (by decide), fun t2 h2 => ⟨szl _ (by decide), fun t3 h3 => ⟨szl _ (by decide), fun t4 h4 => ⟨⟨_, .inl (.inl upd_same)⟩, ?_⟩⟩⟩⟩⟩⟩
        have u0 := Same.new (o := .tup [V.int 5, V.int 6]) h0
        have u1 := Same.new (o := .tup [V.int 0, V.int 5]) h1
        have u2 := Same.new (o := .tup [V.int 1, V.int 6]) h2
        have u3 := Same.new (o := .tup [V.int 0, V.int 6]) h3
        have u4 := Same.new (o := .tup [V.ref t0, V.ref t1, V.ref t2, V.ref t3]) h4
        have v0 := u4 _ _ (u3 _ _ (u2 _ _ (u1 _ _ (upd_same (H := H8) (a := t0) (o := .tup [V.int 5, V.int 6])))))
        have v1 := u4 _ _ (u3 _ _ (u2 _ _ (upd_same (H := upd H8 t0 (.tup [V.int 5, V.int 6])) (a := t1) (o := .tup [V.int 0, V.int 5]))))
        have v2 := u4 _ _ (u3 _ _ (upd_same (H := upd (upd H8 t0 (.tup [V.int 5, V.int 6])) t1 (.tup [V.int 0, V.int 5])) (a := t2) (o := .tup [V.int 1, V.int 6])))
        have v3 := u4 _ _ (upd_same (H := upd (upd (upd H8 t0 (.tup [V.int 5, V.int 6])) t1 (.tup [V.int 0, V.int 5])) t2 (.tup [V.int 1, V.int 6])) (a := t3) (o := .tup [V.int 0, V.int 6]))
        have v4 := upd_same (H := upd (upd (upd (upd H8 t0 (.tup [V.int 5, V.int 6])) t1 (.tup [V.int 0, V.int 5])) t2 (.tup [V.int 1, V.int 6])) t3 (.tup [V.int 0, V.int 6])) (a := t4) (o := .tup [V.ref t0, V.ref t1, V.ref t2, V.ref t3])
        have U := u0.trans (u1.trans (u2.trans (u3.trans u4)))
        generalize upd (upd (upd (upd (upd H8 t0 (.tup [V.int 5, V.int 6])) t1 (.tup [V.int 0, V.int 5])) t2 (.tup [V.int 1, V.int 6])) t3 (.tup [V.int 0, V.int 6])) t4 (.tup [V.ref t0, V.ref t1, V.ref t2, V.ref t3]) = HX at U v0 v1 v2 v3 v4
        have SX' := S8.trans U
        refine lcK (walk_tup (xs := [V.ref t0, V.ref t1, V.ref t2, V.ref t3])) (Psame HX) (fun D nD => ⟨Same.new nD, upd_same⟩) (fun D i H' _ h => .inl (.inl (h.1 _ _ v4))) (fun D9 i x Ha Hb nD9 hi hp hy => ?_) (fun D9 H9 nD9 hp => ?_)
        · obtain ⟨rfl, hx'⟩ := hy
          obtain ⟨r, lo, up, rfl, er, hu⟩ : ∃ (r : Addr) (lo up : Nat), x = .ref r ∧ HX r = some (.tup [V.int lo, V.int up]) ∧ up ≤ 8 := by
            rcases i with _ | _ | _ | _ | i
            · cases hx'; exact ⟨t0, 5, 6, rfl, v0, by decide⟩
            · cases hx'; exact ⟨t1, 0, 5, rfl, v1, by decide⟩
            · cases hx'; exact ⟨t2, 1, 6, rfl, v2, by decide⟩
            · cases hx'; exact ⟨t3, 0, 6, rfl, v3, by decide⟩
            · simp at hi; omega
          refine gTup2 (.inl (.inl (hp.1 _ _ er))) ?_
          simp [tSeq, tAsg, tIf, tIfS, tVar, tC, tOp, tUn, rI, rI0, rU, tCB, tCons, tNil, tLst, tTup, tRet, gName, gCons, gNil, gSub, rSetL, tTest, tB, tNot, tAnd, tOr, tAndV, tOrV, tNotV, tNext, tDrop, tCall, tCallK, gKbV, tSl, tNoPart, tPart, tPar, rEq, rNe, tLc_eq, tFor_eq, iRng1, L2.start, cxOf, Cx.nox, wipe, tYes]
          have sb := SX'.trans hp.1
          refine ⟨a, _, rfl, .inl (.inl (sb _ _ ha)), fun c nc => ?_⟩
          rw [cutV_mid, ← List.map_take, ← List.map_drop]
          have sc := Same.new (o := .lst (((zs.take up).drop lo).map V.str)) nc
          refine ⟨v', .ref a, G, c, (zs.take up).drop lo, rfl, Dp.same (U.trans (hp.1.trans sc)) dG, ndG, by omega, zG, .inl (.inl upd_same), by rw [List.length_drop, List.length_take]; omega, fun H' s' => ⟨_, s' _ _ (sc _ _ hp.2), by rw [List.length_replicate, sizeLine_eq]; simp at hi; omega, ?_, ?_⟩⟩
          · exact fun b o e => by rw [upd_ne (ne_of_none e nD9)]; exact s' _ _ (sc _ _ (hp.1 _ _ e))
          · rw [upd_same]; simp [List.replicate_succ']
        · refine ⟨D9, List.replicate 4 true, rfl, .inl (.inl ?_), ?_⟩
          · rw [hp.2, List.map_replicate]; rfl
          · rw [show (List.replicate 4 true).all id = true by decide]
            exact q _ (SX'.trans hp.1)
end
theorem sc__law_right : FnScope ["_law_tape_here", "_law_grove", "_law_turn", "_law_strange", "_law_odd", "_law_names_here", "_law_kept", "_law_off", "_law_plum", "_law_lots", "_law_told", "_law_lot", "_law_one", "_law_way"] ["_law_tape_here"] (defScope s__law_right) := ⟨rfl, rfl, rfl, by decide +kernel, rfl, by decide +kernel, by decide +kernel⟩
section
variable {P : Program} {w : World} {K : PySem.W.Frag} {mg : Str → Option Value} {base : Heap}
def sp__law_right (K : PySem.W.Frag) : Sp := fun vs H Q _ => ∃ (t : Addr), vs = [.ref t] ∧ TapeAt H t 0 ∧ ∀ H', Ext t H H' → (∃ n, TapeAt H' t n) → Q (.bl true) H'
def Pnm (H : Hp) (G : List (Str × List (List Str))) (D : Addr) (i : Nat) (H' : Hp) : Prop := Same H H' ∧ H' D = some (.lst ((G.take i).map fun p => V.str p.1))
def Pturn (K : PySem.W.Frag) (H : Hp) (t g D : Addr) (kp : Str) (G : List (Str × List (List Str))) (n : Nat) (i : Nat) (σ : L2.St) (H' : Hp) : Prop := ∃ y2 y3 y4 y7 y8 y9 y10 y11 y12 y13 : Option V,
  σ = [some (.ref t), some (.ref g), y2, y3, y4, some (.ref D), some (.str kp), y7, y8, y9, y10, y11, y12, y13] ∧ Ext t H H' ∧ TapeAt H' t (n + 40 * i) ∧ H' D = some (.lst ((G.map (·.1)).map V.str)) ∧ Dp K (hid [t] H') (.ref g) (grD G)
def Prest (HL : Hp) (t g D : Addr) (kp : Str) (_ : Nat) (σ : L2.St) (H' : Hp) : Prop := ∃ y2 y3 y4 y7 y8 y9 y10 y11 y12 y13 : Option V,
  σ = [some (.ref t), some (.ref g), y2, y3, y4, some (.ref D), some (.str kp), y7, y8, y9, y10, y11, y12, y13] ∧ Same HL H'
def Pbig (K : PySem.W.Frag) (H : Hp) (ls : List (List Str)) (D : Addr) (i : Nat) (H' : Hp) : Prop := Same H H' ∧ ∃ us : List V, H' D = some (.lst us) ∧ us.length ≤ i ∧ ∀ u ∈ us, ∃ c z, u = .ref c ∧ SqT K H c (z.map V.str) ∧ z ∈ ls ∧ 1 < z.length
def Pin (Hg HL : Hp) (t g D : Addr) (kp : Str) (i : Nat) (_ : Nat) (σ : L2.St) (H' : Hp) : Prop := Prest HL t g D kp i σ H' ∧ Same Hg H'
def Pst (H : Hp) (ns : List Str) (D : Addr) (i : Nat) (H' : Hp) : Prop := Same H H' ∧ H' D = some (.lst ((([Rp.z8, Rp.y8].take i).filter fun x => !decide (x ∈ ns)).map V.str))
def Pend (HL : Hp) (t g D : Addr) (kp s : Str) (_ : Nat) (σ : L2.St) (H' : Hp) : Prop := ∃ y2 y4 y7 y8 y9 y10 y11 y12 y13 : Option V,
  σ = [some (.ref t), some (.ref g), y2, some (.str s), y4, some (.ref D), some (.str kp), y7, y8, y9, y10, y11, y12, y13] ∧ Same HL H'
def Ptwo (H : Hp) (o : Str) (D : Addr) (i : Nat) (H' : Hp) : Prop := Same H H' ∧ H' D = some (.lst (List.replicate i (V.str o)))
theorem ok__law_right (T : Txt K mg) : FnOkG P w K mg base CX0 11 T.f__law_right T.fd__law_right ["_law_tape_here"] (sp__law_right K) := by
  refine okG T.F__law_right sc__law_right (fun vs H Q E h => ?_) (fun cdv A outer s H vs Q E noRepr hr h => ?_)
  · obtain ⟨t, rfl, _⟩ := h
    rfl
  · obtain ⟨t, rfl, hT, q⟩ := h
    refine ⟨_, (pss_cons (ps_if (pt_not (pt_val (pe_call (ok__law_six_right T) (hr.mono (by decide)) (by rfl) T.g__law_six_right T.F__law_six_right.kp T.b__law_six_right .nil pass0 (pa_cons (pe_call (ok__law_names T) (hr.mono (by decide)) (by rfl) T.g__law_names T.F__law_names.kp T.b__law_names .nil pass0 (pa_cons (pv 0) (pa_cons pe_int pa_nil))) pa_nil)))) (pss_one (ps_ret pe_bl)) pss_nil)
      (pss_cons (ps_set (i := 1) sc__law_right.nd rfl (by first | exact Or.inl rfl | exact Or.inr rfl) (pe_call (ok__law_orchard T) (hr.mono (by decide)) (by rfl) T.g__law_orchard T.F__law_orchard.kp T.b__law_orchard .nil pass0 (pa_cons (pv 0) (pa_cons pe_int (pa_cons pe_int pa_nil)))))
      (pss_cons (ps_asg (pe_tup (pa_cons (pe_lc (own := [("_law_plum", 8), ("_law_lots", 9)]) (g := (gTup K 2 (gCons (gName 8) (gCons (gName 9) gNil)))) (tt := tYes) (te := (tVar 8)) (by rfl) sc__law_right.nd (pi_tup (pv 1)) (blkOk_by (own := [("_law_plum", 8), ("_law_lots", 9)]) (N := ["_law_tape_here", "_law_grove", "_law_turn", "_law_strange", "_law_odd", "_law_names_here", "_law_kept", "_law_off", "_law_plum", "_law_lots", "_law_told", "_law_lot", "_law_one", "_law_way"]) (sc := defScope s__law_right) (by decide +kernel)) (fun _ _ _ _ _ => (pg_tup rfl (pgs_cons (pg_name (i := 8) sc__law_right.nd rfl (by first | exact Or.inl rfl | exact Or.inr rfl)) (pgs_cons (pg_name (i := 9) sc__law_right.nd rfl (by first | exact Or.inl rfl | exact Or.inr rfl)) pgs_nil)))) (fun _ _ _ _ _ => pts_nil) (fun _ _ _ _ _ => (pv 8))) (pa_cons (pe_callB (call_repr noRepr hr.units) (by rfl) T.m_repr (by decide +kernel) (pa_cons (pv 1) pa_nil)) pa_nil))) (pg_tup rfl (pgs_cons (pg_name (i := 5) sc__law_right.nd rfl (by first | exact Or.inl rfl | exact Or.inr rfl)) (pgs_cons (pg_name (i := 6) sc__law_right.nd rfl (by first | exact Or.inl rfl | exact Or.inr rfl)) pgs_nil))))
      (pss_cons (ps_for PassesOwn.never rfl (pi_range1 (by rfl) T.m_range (pa_cons pe_int pa_nil)) (pg_name (i := 2) sc__law_right.nd rfl (by first | exact Or.inl rfl | exact Or.inr rfl))
      (pss_cons (ps_set (i := 7) sc__law_right.nd rfl (by first | exact Or.inl rfl | exact Or.inr rfl) (pe_call (ok__law_part T) (hr.mono (by decide)) (by rfl) T.g__law_part T.F__law_part.kp T.b__law_part .nil pass0 (pa_cons (pv 0) (pa_cons (pe_op op_cat (pv 5) (pe_lst (pa_cons pe_str pa_nil))) (pa_cons (pe_call (ok__law_draw T) (hr.mono (by decide)) (by rfl) T.g__law_draw T.F__law_draw.kp T.b__law_draw .nil pass0 (pa_cons (pv 0) (pa_cons (pe_op op_add (pe_callB call_len_seq (by rfl) T.m_len (by decide +kernel) (pa_cons (pv 5) pa_nil)) pe_int) pa_nil))) pa_nil)))))
      (pss_one (ps_if (pt_not (pt_val (pe_call (ok__law_gone_right T) (hr.mono (by decide)) (by rfl) T.g__law_gone_right T.F__law_gone_right.kp T.b__law_gone_right .nil pass0 (pa_cons (pv 1) (pa_cons (pv 5) (pa_cons (pv 7) pa_nil)))))) (pss_one (ps_ret pe_bl)) pss_nil))))
      (pss_cons (ps_for PassesOwn.never rfl (pi_tup (pv 1)) (pg_tup rfl (pgs_cons (pg_name (i := 8) sc__law_right.nd rfl (by first | exact Or.inl rfl | exact Or.inr rfl)) (pgs_cons (pg_name (i := 9) sc__law_right.nd rfl (by first | exact Or.inl rfl | exact Or.inr rfl)) pgs_nil)))
      (pss_cons (ps_set (i := 10) sc__law_right.nd rfl (by first | exact Or.inl rfl | exact Or.inr rfl) (pe_lst (pa_cons (pe_call (ok_lots_of T) (hr.mono (by decide)) (by rfl) T.g_lots_of T.F_lots_of.kp T.b_lots_of .nil passF (pa_cons (pv 1) (pa_cons (pv 8) pa_nil))) (pa_cons (pe_callK0 (ok_lots_of T) (hr.mono (by decide)) (by rfl) T.g_lots_of T.F_lots_of.kp T.kb_lots_of passF (pk_cons (pv 8) (pk_cons (pe_call (ok__law_lists T 7) (hr.mono (by decide)) (by rfl) T.g__law_lists T.F__law_lists.kp T.b__law_lists .nil pass0 (pa_cons (pv 1) pa_nil)) pk_nil))) pa_nil))))
      (pss_one (ps_if (pt_not (pt_val (pe_call (ok__law_same T 7) (hr.mono (by decide)) (by rfl) T.g__law_same T.F__law_same.kp T.b__law_same .nil pass0 (pa_cons (pv 10) (pa_cons (pe_lst (pa_cons (pv 9) (pa_cons (pv 9) pa_nil))) pa_nil))))) (pss_one (ps_ret pe_bl)) pss_nil))))
      (pss_cons (ps_for PassesOwn.never rfl (pi_tup (pv 1)) (pg_tup rfl (pgs_cons (pg_name (i := 8) sc__law_right.nd rfl (by first | exact Or.inl rfl | exact Or.inr rfl)) (pgs_cons (pg_name (i := 9) sc__law_right.nd rfl (by first | exact Or.inl rfl | exact Or.inr rfl)) pgs_nil)))
      (pss_one (ps_for PassesOwn.never rfl (pi_seq (pe_lc (own := [("_law_lot", 11)]) (g := (gName 11)) (tt := (tTest (tOp (rI0 fun i j => .bl (decide (j < i))) (tCB (rLenQ K) (tCons (tVar 11) tNil)) (tC (.int 1))))) (te := (tVar 11)) (by rfl) sc__law_right.nd (pi_seq (pv 9)) (blkOk_by (own := [("_law_lot", 11)]) (N := ["_law_tape_here", "_law_grove", "_law_turn", "_law_strange", "_law_odd", "_law_names_here", "_law_kept", "_law_off", "_law_plum", "_law_lots", "_law_told", "_law_lot", "_law_one", "_law_way"]) (sc := defScope s__law_right) (by decide +kernel)) (fun _ _ _ _ _ => (pg_name (i := 11) sc__law_right.nd rfl (by first | exact Or.inl rfl | exact Or.inr rfl))) (fun _ _ _ _ _ => (pts_one (pt_cmpR op_gt (pe_callB call_len_seq (by rfl) T.m_len (by decide +kernel) (pa_cons (pv 11) pa_nil)) pe_int (nomark _)))) (fun _ _ _ _ _ => (pv 11)))) (pg_name (i := 11) sc__law_right.nd rfl (by first | exact Or.inl rfl | exact Or.inr rfl))
      (pss_one (ps_if (pt_not (pt_val (pe_call (ok__law_gone_right T) (hr.mono (by decide)) (by rfl) T.g__law_gone_right T.F__law_gone_right.kp T.b__law_gone_right .nil pass0 (pa_cons (pv 1) (pa_cons (pv 5) (pa_cons (pe_op op_rep (pe_callTy call_list_of (by rfl) T.m_list (by decide +kernel) (pa_cons (pe_slice sl_tup (pv 11) po_none (po_some pe_int)) pa_nil)) (pe_callB call_len_seq (by rfl) T.m_len (by decide +kernel) (pa_cons (pv 11) pa_nil))) pa_nil)))))) (pss_one (ps_ret pe_bl)) pss_nil)))))
      (pss_cons (ps_set (i := 3) sc__law_right.nd rfl (by first | exact Or.inl rfl | exact Or.inr rfl) (pe_ix ix_list (pe_lc (own := [("_law_one", 12)]) (g := (gName 12)) (tt := (tTest (tOp (rIn K true) (tVar 12) (tVar 5)))) (te := (tVar 12)) (by rfl) sc__law_right.nd (pi_tup (pe_tup (pa_cons pe_str (pa_cons pe_str pa_nil)))) (blkOk_by (own := [("_law_one", 12)]) (N := ["_law_tape_here", "_law_grove", "_law_turn", "_law_strange", "_law_odd", "_law_names_here", "_law_kept", "_law_off", "_law_plum", "_law_lots", "_law_told", "_law_lot", "_law_one", "_law_way"]) (sc := defScope s__law_right) (by decide +kernel)) (fun _ _ _ _ _ => (pg_name (i := 12) sc__law_right.nd rfl (by first | exact Or.inl rfl | exact Or.inr rfl))) (fun _ _ _ _ _ => (pts_one (pt_cmpR op_notIn_seq (pv 12) (pv 5) (by rfl)))) (fun _ _ _ _ _ => (pv 12))) pe_int (fun _ _ => rfl)))
      (pss_cons (ps_for PassesOwn.never rfl (pi_tup (pe_tup (pa_cons (pv 3) (pa_cons pe_str (pa_cons pe_str (pa_cons pe_str pa_nil)))))) (pg_name (i := 4) sc__law_right.nd rfl (by first | exact Or.inl rfl | exact Or.inr rfl))
      (pss_one (ps_if (pt_cmpR (op_neD hr.units) (pe_lc (own := [("_law_way", 13)]) (g := (gName 13)) (tt := tYes) (te := (tCall (sp__law_refused K) [] E0 (tCons (tVar 13) (tCons (tVar 1) (tCons (tVar 4) tNil))))) (by rfl) sc__law_right.nd (pi_tup (pe_tup (pa_cons pe_int (pa_cons pe_int pa_nil)))) (blkOk_by (own := [("_law_way", 13)]) (N := ["_law_tape_here", "_law_grove", "_law_turn", "_law_strange", "_law_odd", "_law_names_here", "_law_kept", "_law_off", "_law_plum", "_law_lots", "_law_told", "_law_lot", "_law_one", "_law_way"]) (sc := defScope s__law_right) (by decide +kernel)) (fun _ _ _ _ _ => (pg_name (i := 13) sc__law_right.nd rfl (by first | exact Or.inl rfl | exact Or.inr rfl))) (fun _ _ _ _ _ => pts_nil) (fun _ _ _ _ _ => (pe_call (ok__law_refused T) (hr.mono (by decide)) (by rfl) T.g__law_refused T.F__law_refused.kp T.b__law_refused .nil pass0 (pa_cons (pv 13) (pa_cons (pv 1) (pa_cons (pv 4) pa_nil)))))) (pe_lst (pa_cons (pv 4) (pa_cons (pv 4) pa_nil))) (nomark _)) (pss_one (ps_ret pe_bl)) pss_nil)))
      (pss_one (ps_ret (pe_and (pe_cmpR op_eq (pe_callB (call_repr noRepr hr.units) (by rfl) T.m_repr (by decide +kernel) (pa_cons (pv 1) pa_nil)) (pv 6) (nomark _)) (pe_one (pe_call (ok__law_same T 7) (hr.mono (by decide)) (by rfl) T.g__law_same T.F__law_same.kp T.b__law_same .nil pass0 (pa_cons (pe_call (ok_ripe T) (hr.mono (by decide)) (by rfl) T.g_ripe T.F_ripe.kp T.b_ripe .nil pass0 (pa_cons (pe_tup pa_nil) (pa_cons (pe_lst (pa_cons pe_str pa_nil)) pa_nil))) (pa_cons (pe_lst pa_nil) pa_nil))))))))))))))), ?_⟩
    simp [tSeq, tAsg, tIf, tIfS, tVar, tC, tOp, tUn, rI, rI0, rU, tCB, tCons, tNil, tLst, tTup, tRet, gName, gCons, gNil, gSub, rSetL, tTest, tB, tNot, tAnd, tOr, tAndV, tOrV, tNotV, tNext, tDrop, tCall, tCallK, gKbV, tSl, tNoPart, tPart, tPar, rEq, rNe, tLc_eq, tFor_eq, iRng1, L2.start, cxOf, Cx.nox]
    have szl : ∀ k : Nat, k ≤ 1000 → k ≤ sizeLine := fun k h => by rw [sizeLine_eq]; omega
    refine ⟨t, 8, 0, rfl, hT, by omega, by omega, fun zs p H1 l1 nd1 nm1 ap1 np1 T1 x1 e1 => ?_⟩
    refine ⟨p, zs, rfl, e1, l1, nd1, nm1, fun H2 s2 => .inr ⟨rfl, ?_⟩⟩
    refine ⟨t, 0, 12, 0 + 20, rfl, T1.same s2, by omega, by omega, by omega, fun G v H3 x3 T3 d3 hG => ?_⟩
    obtain ⟨zs', hG, _, hz12⟩ := hG
    have X3 : Ext t H H3 := x1.trans ((Ext.of s2).trans x3)
    have lG : G.length ≤ 12 := by rw [hG.len]; exact hz12
    clear x3 T1 x1 e1 s2 np1 ap1 nm1 nd1 l1
    have d3' := Dp.same (hid_in _ _) d3
    have bd : ∀ p ∈ G, p.2.length ≤ 64 ∧ ∀ z ∈ p.2, z.length ≤ 64 := fun p hp => ⟨by have := (hG.lots p hp).1; omega, fun z hz => by have := ((hG.lots p hp).2 z hz).1; omega⟩
    cases d3 with
    | @tup g xs _ sg dg =>
    have lx := DpAll.len dg
    rw [List.length_map] at lx
    have sg' := Same.seqT (hid_in _ _) sg
    have dg' := Rp.DpAll.same (hid_in _ _) dg
    refine ⟨.ref g, rfl, g, rfl, ⟨_, sg'⟩, ?_⟩
    refine lcK (walk_tup (xs := xs)) (Pnm H3 G) (fun D nD => ⟨Same.new nD, upd_same⟩) (fun D i H' _ h => Same.seqT h.1 sg') (fun D i x Ha Hb nD hi hp hy => ?_) (fun D H4 nD hp => ?_)
    · obtain ⟨rfl, hx'⟩ := hy
      obtain ⟨dx, e1, h1⟩ := DpAll.at dg' hx'
      rw [List.getElem?_map] at e1
      obtain ⟨f, ef, rfl⟩ := Option.map_eq_some_iff.mp e1
      obtain ⟨c, l, rfl, hc, hdl⟩ := pair_of h1
      refine gTup2 (Same.seqT hp.1 hc) ?_
      simp [tSeq, tAsg, tIf, tIfS, tVar, tC, tOp, tUn, rI, rI0, rU, tCB, tCons, tNil, tLst, tTup, tRet, gName, gCons, gNil, gSub, rSetL, tTest, tB, tNot, tAnd, tOr, tAndV, tOrV, tNotV, tNext, tDrop, tCall, tCallK, gKbV, tSl, tNoPart, tPart, tPar, rEq, rNe, tLc_eq, tFor_eq, iRng1, L2.start, cxOf, Cx.nox, wipe, tYes]
      refine ⟨_, hp.2, by rw [List.length_map, List.length_take, sizeLine_eq]; omega, fun c u e => by rw [upd_ne (ne_of_none e nD)]; exact hp.1 _ _ e, ?_⟩
      rw [upd_same, take_at ef, List.map_append]; rfl
    · obtain ⟨s4, e4⟩ := hp
      rw [lx, List.take_length] at e4
      have sh := show_gr G
      refine ⟨g, grD G, rfl, Dp.same s4 d3', sh.1, sh.2.1, by have := depth_gr G; simp only [PyData.depth]; omega, shown_gr hG (by omega), szl _ (by decide), fun p5 n5 => gTup2 (.inl (.inl upd_same)) ?_⟩
      have s5 := Same.new (o := .tup [V.ref D, V.str (grD G).shown]) n5
      have X5 := X3.trans ((Ext.of s4).trans (Ext.of (t := t) s5))
      have T5 := (T3.same s4).same s5
      have e5 := s5 _ _ e4
      have D5 : Dp K (hid [t] (upd H4 p5 (.tup [V.ref D, V.str (grD G).shown]))) (.ref g) (grD G) := Dp.same (hid_on fun b o _ e => s5 _ _ (s4 _ _ e)) (.tup sg dg)
      generalize upd H4 p5 (.tup [V.ref D, V.str (grD G).shown]) = H5 at X5 T5 e5 D5
      clear s5 n5
      rw [show (G.map fun p => V.str p.1) = (G.map (·.1)).map V.str by rw [List.map_map]; rfl] at e5
      simp [tSeq, tAsg, tIf, tIfS, tVar, tC, tOp, tUn, rI, rI0, rU, tCB, tCons, tNil, tLst, tTup, tRet, gName, gCons, gNil, gSub, rSetL, tTest, tB, tNot, tAnd, tOr, tAndV, tOrV, tNotV, tNext, tDrop, tCall, tCallK, gKbV, tSl, tNoPart, tPart, tPar, rEq, rNe, tLc_eq, tFor_eq, iRng1, L2.start, cxOf, Cx.nox]
      have Dt : D ≠ t := fun z => by
        obtain ⟨a, b, c, h, _⟩ := T3
        rw [z, h] at nD; cases nD
      refine frK walk_range (Pturn K H t g D (grD G).shown G (0 + 20 + 600)) ⟨_, _, _, _, _, _, _, _, _, _, rfl, X5, T5, e5, D5⟩ (fun _ _ _ _ _ => trivial) (fun i x σ H6 H7 hi hp hy => ?_) (fun σ H6 hp => ?_)
      · obtain ⟨rfl, rfl⟩ := hy
        obtain ⟨y2, y3, y4, y7, y8, y9, y10, y11, y12, y13, rfl, X6, T6, e6, D6⟩ := hp
        simp [tSeq, tAsg, tIf, tIfS, tVar, tC, tOp, tUn, rI, rI0, rU, tCB, tCons, tNil, tLst, tTup, tRet, gName, gCons, gNil, gSub, rSetL, tTest, tB, tNot, tAnd, tOr, tAndV, tOrV, tNotV, tNext, tDrop, tCall, tCallK, gKbV, tSl, tNoPart, tPart, tPar, rEq, rNe, tLc_eq, tFor_eq, iRng1, L2.start, cxOf, Cx.nox]
        refine ⟨szl _ (by decide), fun p6 n6 => ?_⟩
        have m6 := Same.new (o := .lst [V.str (Str.ofString "zzzzzzz")]) n6
        refine ⟨D, p6, _, _, rfl, rfl, m6 _ _ e6, upd_same, by rw [sizeLine_eq]; simp; omega, fun p7 n7 => ?_⟩
        have m7 := Same.new (o := .lst ((G.map (·.1)).map V.str ++ [V.str (Str.ofString "zzzzzzz")])) n7
        rw [show (G.map (·.1)).map V.str ++ [V.str (Str.ofString "zzzzzzz")] = (G.map (·.1) ++ [Str.ofString "zzzzzzz"]).map V.str by simp] at m7 ⊢
        have m67 := m6.trans m7
        refine ⟨_, .inl (.inl (.inl (m67 _ _ e6))), t, _, _, rfl, (T6.same m67), by omega, by simp; omega, by simp; omega, fun r H8 r0 r1 T8 k8 => ?_⟩
        obtain ⟨k, rfl⟩ : ∃ k : Nat, r = k := ⟨r.toNat, by omega⟩
        have p7t : p7 ≠ t := fun z => by
          obtain ⟨a, b, c, h, _⟩ := T6.same m6
          rw [z, h] at n7; cases n7
        have kk : k ≤ 14 := by simp at r1; omega
        refine ⟨t, p7, _, k, _, rfl, T8, by omega, .inl (.inl (.inl (by rw [k8 p7 p7t]; exact upd_same))), by simp; omega, by omega, fun ys rs p9 H9 pm9 l9 n9 T9 x9 e9 => ?_⟩
        obtain ⟨al, ea, pa⟩ := perm_strs pm9
        have eys : ys = (al.take ys.length).map V.str := by rw [List.map_take, ← ea, List.take_left]
        have x79 : Ext t H7 H9 := fun b o nb e => x9 b o nb (by rw [k8 b nb]; exact m67 _ _ e)
        have D9 : Dp K (hid [t] H9) (.ref g) (grD G) := Dp.same (hid_on fun b o nb e => x79 b o (by simpa using nb) e) D6
        refine ⟨.ref g, .ref D, G, p9, al.take ys.length, rfl, Dp.same (hid_in _ _) D9, hG.nd, by omega, bd, .inl (.inl (by rw [e9, ← eys])), by rw [List.length_take, l9]; simp; omega, fun H10 s10 => .inr ⟨rfl, _, _, _, _, _, _, _, _, _, _, rfl, X6.trans (x79.trans (Ext.of s10)), (T9.same s10).mono (by omega), s10 _ _ (x79 _ _ Dt e6), Dp.same (hid_on fun b o _ e => s10 _ _ e) D9⟩⟩
      · obtain ⟨y2, y3, y4, y7, y8, y9, y10, y11, y12, y13, rfl, X6, T6, e6, D6⟩ := hp
        simp [tSeq, tAsg, tIf, tIfS, tVar, tC, tOp, tUn, rI, rI0, rU, tCB, tCons, tNil, tLst, tTup, tRet, gName, gCons, gNil, gSub, rSetL, tTest, tB, tNot, tAnd, tOr, tAndV, tOrV, tNotV, tNext, tDrop, tCall, tCallK, gKbV, tSl, tNoPart, tPart, tPar, rEq, rNe, tLc_eq, tFor_eq, iRng1, L2.start, cxOf, Cx.nox]
        have D6' := Dp.same (hid_in _ _) D6
        clear D5 e5 T5 X5 s4 e4 dg' sg' dg sg d3'
        have D6c := D6'
        cases D6c with
        | @tup _ xs6 _ sg dg =>
        have lx6 := DpAll.len dg
        rw [List.length_map] at lx6
        have bd' : ∀ p ∈ G, p.2.length ≤ 1000 ∧ ∀ z ∈ p.2, z.length ≤ 1000 := fun p hp => ⟨by have := (bd p hp).1; omega, fun z hz => by have := (bd p hp).2 z hz; omega⟩
        refine ⟨.ref g, rfl, g, rfl, ⟨_, sg⟩, ?_⟩
        refine frK (walk_tup (xs := xs6)) (Prest H6 t g D (grD G).shown) ⟨_, _, _, _, _, _, _, _, _, _, rfl, fun _ _ h => h⟩ (fun i σ H' _ h => ?_) (fun i x σ H7 H8 hi hp hy => ?_) (fun σ H7 hp => ?_)
        · obtain ⟨y2, y3, y4, y7, y8, y9, y10, y11, y12, y13, rfl, s7⟩ := h
          exact Same.seqT s7 sg
        · obtain ⟨y2, y3, y4, y7, y8, y9, y10, y11, y12, y13, rfl, s7⟩ := hp
          obtain ⟨rfl, hx'⟩ := hy
          obtain ⟨dx, e1, h1⟩ := DpAll.at dg hx'
          rw [List.getElem?_map] at e1
          obtain ⟨f, ef, rfl⟩ := Option.map_eq_some_iff.mp e1
          obtain ⟨c, l, rfl, hc, hdl⟩ := pair_of h1
          have fm := List.mem_of_getElem? ef
          have look := look_nd hG.nd fm
          refine gTup2 (Same.seqT s7 hc) ?_
          simp [tSeq, tAsg, tIf, tIfS, tVar, tC, tOp, tUn, rI, rI0, rU, tCB, tCons, tNil, tLst, tTup, tRet, gName, gCons, gNil, gSub, rSetL, tTest, tB, tNot, tAnd, tOr, tAndV, tOrV, tNotV, tNext, tDrop, tCall, tCallK, gKbV, tSl, tNoPart, tPart, tPar, rEq, rNe, tLc_eq, tFor_eq, iRng1, L2.start, cxOf, Cx.nox]
          refine ⟨.ref g, _, G, f.1, rfl, Dp.same s7 D6', flat_gr G, by omega, fun p hp => (bd' p hp).1, fun ls el v1 Ha sa da => ?_, fun e => absurd (look.symm.trans e) (by simp)⟩
          rw [look] at el
          cases el
          refine ⟨.ref g, _, rfl, Dp.same (s7.trans sa) D6', deep_gr 2 (by omega) bd', fun pl Hb sb db => ?_⟩
          refine ⟨pl, _, G, f.1, rfl, Dp.same (news_in _ _) db, (flat_listy _).trans (flat_gr G), by omega, fun p hp => (bd' p hp).1, fun ls el v2 Hc sc dc => ⟨szl _ (by decide), fun p np => ⟨szl _ (by decide), fun p1 np1 => ?_⟩⟩, fun e => absurd (look.symm.trans e) (by simp)⟩
          rw [look] at el
          cases el
          have sp := Same.new (o := .lst [v1, v2]) np
          have sp1 := Same.new (o := .lst [l, l]) np1
          have dl := Dp.same (s7.trans (sa.trans (sb.trans (sc.trans (sp.trans sp1))))) hdl
          refine ⟨.ref p, .ref p1, .list [lotsD f.2, lotsD f.2], rfl, .lst (.inl (.inl (sp1 _ _ upd_same))) (.cons (Dp.same (sb.trans (sc.trans (sp.trans sp1))) da) (.cons (Dp.same (sp.trans sp1) dc) .nil)), .lst (.inl (.inl upd_same)) (.cons dl (.cons dl .nil)), ⟨by simp, fun d hd => ?_⟩, fun H' s' => .inr ⟨rfl, _, _, _, _, _, _, _, _, _, _, rfl, s7.trans (sa.trans (sb.trans (sc.trans (sp.trans (sp1.trans s')))))⟩⟩
          have : d = lotsD f.2 := by simpa using hd
          rw [this]; exact deep_lots 3 (bd' f fm).1 (bd' f fm).2
        · obtain ⟨y2, y3, y4, y7, y8, y9, y10, y11, y12, y13, rfl, s7⟩ := hp
          simp [tSeq, tAsg, tIf, tIfS, tVar, tC, tOp, tUn, rI, rI0, rU, tCB, tCons, tNil, tLst, tTup, tRet, gName, gCons, gNil, gSub, rSetL, tTest, tB, tNot, tAnd, tOr, tAndV, tOrV, tNotV, tNext, tDrop, tCall, tCallK, gKbV, tSl, tNoPart, tPart, tPar, rEq, rNe, tLc_eq, tFor_eq, iRng1, L2.start, cxOf, Cx.nox]
          refine ⟨.ref g, rfl, g, rfl, ⟨_, Same.seqT s7 sg⟩, ?_⟩
          refine frK (walk_tup (xs := xs6)) (Prest H6 t g D (grD G).shown) ⟨_, _, _, _, _, _, _, _, _, _, rfl, s7⟩ (fun i σ H' _ h => ?_) (fun i x σ H8 H9 hi hp hy => ?_) (fun σ H8 hp => ?_)
          · obtain ⟨y2, y3, y4, y7, y8, y9, y10, y11, y12, y13, rfl, s7⟩ := h
            exact Same.seqT s7 sg
          · obtain ⟨y2, y3, y4, y7, y8, y9, y10, y11, y12, y13, rfl, s8⟩ := hp
            obtain ⟨rfl, hx'⟩ := hy
            obtain ⟨dx, e1, h1⟩ := DpAll.at dg hx'
            rw [List.getElem?_map] at e1
            obtain ⟨f, ef, rfl⟩ := Option.map_eq_some_iff.mp e1
            obtain ⟨c, l, rfl, hc, hdl⟩ := pair_of h1
            have fm := List.mem_of_getElem? ef
            refine gTup2 (Same.seqT s8 hc) ?_
            simp [tSeq, tAsg, tIf, tIfS, tVar, tC, tOp, tUn, rI, rI0, rU, tCB, tCons, tNil, tLst, tTup, tRet, gName, gCons, gNil, gSub, rSetL, tTest, tB, tNot, tAnd, tOr, tAndV, tOrV, tNotV, tNext, tDrop, tCall, tCallK, gKbV, tSl, tNoPart, tPart, tPar, rEq, rNe, tLc_eq, tFor_eq, iRng1, L2.start, cxOf, Cx.nox]
            cases hdl with
            | @tup b2 ws _ sw dw =>
            have lw := DpAll.len dw
            rw [List.length_map] at lw
            refine .inl ?_
            unfold iList
            rw [tLc_eq]
            refine walk_any rfl (.inr (Same.seqT s8 sw)) fun J wk => lcK wk (Pbig K H9 f.2) (fun D nD => ⟨Same.new nD, [], upd_same, Nat.le_refl _, fun _ h => (by cases h)⟩) (fun D i H' _ h => h.1) (fun D3 i' x' Ha Hb nD3 hi' hp' hy' => ?_) (fun D3 Hg nD3 hp' => ?_)
            · obtain ⟨s3, us, e3, l3, h3⟩ := hp'
              obtain ⟨rfl, hx2⟩ := hy'
              obtain ⟨d2, g1, g2⟩ := DpAll.at dw hx2
              rw [List.getElem?_map] at g1
              obtain ⟨z, ez, rfl⟩ := Option.map_eq_some_iff.mp g1
              obtain ⟨c2, rfl, hc2⟩ : ∃ c2, x' = .ref c2 ∧ SqT K H6 c2 (z.map V.str) := by
                cases g2 with
                | tup hs hh => exact ⟨_, rfl, by rw [← strs_all hh (z := z) (by rw [List.map_map]; congr 1)]; exact hs⟩
              have hc3 := Same.seqT s8 hc2
              simp [tSeq, tAsg, tIf, tIfS, tVar, tC, tOp, tUn, rI, rI0, rU, tCB, tCons, tNil, tLst, tTup, tRet, gName, gCons, gNil, gSub, rSetL, tTest, tB, tNot, tAnd, tOr, tAndV, tOrV, tNotV, tNext, tDrop, tCall, tCallK, gKbV, tSl, tNoPart, tPart, tPar, rEq, rNe, tLc_eq, tFor_eq, iRng1, L2.start, cxOf, Cx.nox, wipe, rLenQ]
              refine ⟨_, .inr (Same.seqT s3 hc3), ?_⟩
              rw [List.length_map]
              by_cases h1 : 1 < (z.length : Int)
              · rw [if_pos h1]
                refine ⟨us, e3, by have := (bd f fm).1; rw [sizeLine_eq]; omega, fun c u e => by rw [upd_ne (ne_of_none e nD3)]; exact s3 _ _ e, us ++ [.ref c2], upd_same, by simp; omega, fun u hu => ?_⟩
                rcases List.mem_append.mp hu with h | h
                · exact h3 u h
                · rw [List.mem_singleton.mp h]
                  exact ⟨c2, z, rfl, hc3, List.mem_of_getElem? ez, by omega⟩
              · rw [if_neg h1]
                exact ⟨s3, us, e3, by omega, h3⟩
            · obtain ⟨s3, us, e3, l3, h3⟩ := hp'
              refine ⟨D3, rfl, ⟨_, .inl (.inl e3)⟩, ?_⟩
              refine frK (walk_list (xs := us)) (Pin Hg H6 t g D (grD G).shown (i + 1)) ⟨⟨_, _, _, _, _, _, _, _, _, _, rfl, s8.trans s3⟩, fun _ _ h => h⟩ (fun j σ H' _ h => .inl (.inl (h.2 _ _ e3))) (fun j x σ Ha Hb hj hp hy => ?_) (fun σ Ha hp => hp.1)
              obtain ⟨⟨y2, y3, y4, y7, y8, y9, y10, y11, y12, y13, rfl, sA⟩, sB⟩ := hp
              obtain ⟨rfl, hx2⟩ := hy
              obtain ⟨c2, z, rfl, hc2, zm, z1⟩ := h3 x (List.mem_of_getElem? hx2)
              have hcb := Same.seqT (s3.trans sB) hc2
              simp [tSeq, tAsg, tIf, tIfS, tVar, tC, tOp, tUn, rI, rI0, rU, tCB, tCons, tNil, tLst, tTup, tRet, gName, gCons, gNil, gSub, rSetL, tTest, tB, tNot, tAnd, tOr, tAndV, tOrV, tNotV, tNext, tDrop, tCall, tCallK, gKbV, tSl, tNoPart, tPart, tPar, rEq, rNe, tLc_eq, tFor_eq, iRng1, L2.start, cxOf, Cx.nox]
              have cut1 : cutV (z.map V.str) none (some 1) = (z.take 1).map V.str := by rw [List.map_take]; exact cutV_to _ 1
              have lz : z.length ≤ 64 := (bd f fm).2 z zm
              have zl : (z.take 1).length ≤ 1 := by rw [List.length_take]; omega
              have hm : (z.take 1).length * z.length ≤ 1 * z.length := Nat.mul_le_mul_right _ zl
              refine ⟨c2, _, rfl, hcb, ?_, fun p np => ?_⟩
              · rw [List.length_map]
                simp [HT.sIx]
                omega
              rw [cut1]
              have sp := Same.new (o := .tup ((z.take 1).map V.str)) np
              refine ⟨p, rfl, _, .inr (.inl (.inl upd_same)), fun l2 nl2 => ?_⟩
              have sl := Same.new (o := .lst ((z.take 1).map V.str)) nl2
              refine ⟨_, .inr (Same.seqT (sp.trans sl) hcb), l2, _, _, rfl, rfl, upd_same, by omega, by rw [List.length_map]; omega, by rw [List.length_map, List.length_map, sizeLine_eq, Int.toNat_natCast]; omega, fun r nr => ?_⟩
              have sr := Same.new (o := .lst (List.replicate (((z.map V.str).length : Nat) : Int).toNat ((z.take 1).map V.str)).flatten) nr
              have er : (List.replicate (((z.map V.str).length : Nat) : Int).toNat ((z.take 1).map V.str)).flatten = ((List.replicate z.length (z.take 1)).flatten).map V.str := by
                rw [List.map_flatten, List.map_replicate, List.length_map]; rfl
              have all := sp.trans (sl.trans sr)
              refine ⟨.ref g, .ref D, G, r, (List.replicate z.length (z.take 1)).flatten, rfl, Dp.same (sA.trans all) D6', hG.nd, by omega, bd, .inl (.inl (by rw [upd_same, er])), ?_, fun H' s' => .inr ⟨rfl, ⟨_, _, _, _, _, _, _, _, _, _, rfl, sA.trans (all.trans s')⟩, sB.trans (all.trans s')⟩⟩
              have fl : ∀ (n : Nat) (l : List Str), (List.replicate n l).flatten.length = n * l.length := fun n l => by
                induction n with
                | zero => simp
                | succ n ih => rw [List.replicate_succ, List.flatten_cons, List.length_append, ih, Nat.succ_mul, Nat.add_comm]
              rw [fl]
              have : z.length * (z.take 1).length ≤ z.length * 1 := Nat.mul_le_mul_left _ zl
              omega
          · obtain ⟨y2, y3, y4, y7, y8, y9, y10, y11, y12, y13, rfl, s8⟩ := hp
            simp [tSeq, tAsg, tIf, tIfS, tVar, tC, tOp, tUn, rI, rI0, rU, tCB, tCons, tNil, tLst, tTup, tRet, gName, gCons, gNil, gSub, rSetL, tTest, tB, tNot, tAnd, tOr, tAndV, tOrV, tNotV, tNext, tDrop, tCall, tCallK, gKbV, tSl, tNoPart, tPart, tPar, rEq, rNe, tLc_eq, tFor_eq, iRng1, L2.start, cxOf, Cx.nox, iTup]
            refine ⟨szl _ (by decide), fun p8 n8 => ⟨⟨_, .inl (.inl upd_same)⟩, ?_⟩⟩
            have m8 := Same.new (o := .tup [V.str (Str.ofString "zzzzzzzz"), V.str (Str.ofString "yyyyyyyy")]) n8
            have f8 : (upd H8 p8 (.tup [V.str (Str.ofString "zzzzzzzz"), V.str (Str.ofString "yyyyyyyy")])) p8 = some (.tup ([Rp.z8, Rp.y8].map V.str)) := upd_same
            have S8 := s8.trans m8
            generalize upd H8 p8 (.tup [V.str (Str.ofString "zzzzzzzz"), V.str (Str.ofString "yyyyyyyy")]) = HX at f8 S8
            refine lcK (walk_tup (xs := [Rp.z8, Rp.y8].map V.str)) (Pst HX (G.map (·.1))) (fun D nD => ⟨Same.new nD, upd_same⟩) (fun D i H' _ h => .inl (.inl (h.1 _ _ f8))) (fun D4 i x Ha Hb nD4 hi hp hy => ?_) (fun D4 Hc nD4 hp => ?_)
            · obtain ⟨sX, eX⟩ := hp
              obtain ⟨rfl, hx'⟩ := hy
              obtain ⟨o, eo, rfl⟩ := strs_at hx'
              simp [tSeq, tAsg, tIf, tIfS, tVar, tC, tOp, tUn, rI, rI0, rU, tCB, tCons, tNil, tLst, tTup, tRet, gName, gCons, gNil, gSub, rSetL, tTest, tB, tNot, tAnd, tOr, tAndV, tOrV, tNotV, tNext, tDrop, tCall, tCallK, gKbV, tSl, tNoPart, tPart, tPar, rEq, rNe, tLc_eq, tFor_eq, iRng1, L2.start, cxOf, Cx.nox, wipe]
              refine ⟨D, _, rfl, .inl (.inl (.inl ((S8.trans sX) _ _ e6))), rfl, flat_strs _, ?_⟩
              rw [inV_strs]
              have st : ([Rp.z8, Rp.y8].take (i + 1)).filter (fun x => !decide (x ∈ G.map (·.1))) = ([Rp.z8, Rp.y8].take i).filter (fun x => !decide (x ∈ G.map (·.1))) ++ (if o ∈ G.map (·.1) then [] else [o]) := by
                rw [take_at eo, List.filter_append]
                congr 1
                by_cases c : o ∈ G.map (·.1) <;> simp only [List.filter_cons, List.filter_nil, c, decide_true, decide_false, Bool.not_true, Bool.not_false, if_true, if_false, Bool.false_eq_true]
              have fl : (([Rp.z8, Rp.y8].take i).filter (fun x => !decide (x ∈ G.map (·.1)))).length ≤ 2 := Nat.le_trans (List.length_filter_le _ _) (by rw [List.length_take]; simp; omega)
              by_cases c : o ∈ G.map (·.1)
              · refine .inl ⟨by simp only [c, decide_true, Bool.not_true, if_true], sX, ?_⟩
                rw [st, if_pos c, List.append_nil]; exact eX
              · refine .inr ⟨by simp only [c, decide_false, Bool.not_false, if_true], _, eX, by rw [List.length_map, sizeLine_eq]; omega, fun b u e => by rw [upd_ne (ne_of_none e nD4)]; exact sX _ _ e, ?_⟩
                rw [upd_same, st, if_neg c, List.map_append]; rfl
            · obtain ⟨sX, eX⟩ := hp
              obtain ⟨s9, r9, es, hs9, hsw⟩ := far_one hG.apart
              have eX' : Hc D4 = some (.lst (V.str s9 :: r9.map V.str)) := by
                rw [eX]
                show some (HO.lst ((([Rp.z8, Rp.y8].take 2).filter fun x => !decide (x ∈ G.map (·.1))).map V.str)) = _
                rw [show [Rp.z8, Rp.y8].take 2 = [Rp.z8, Rp.y8] from rfl, es]; rfl
              refine ixLH eX' (atI_ok (k := 0) rfl (by simp)) ⟨szl _ (by decide), fun p9 n9 => ⟨⟨_, .inl (.inl upd_same)⟩, ?_⟩⟩
              have m9 := Same.new (o := .tup ((odd4 s9).map V.str)) n9
              have f9 : (upd Hc p9 (.tup ((odd4 s9).map V.str))) p9 = _ := upd_same
              have S9 := S8.trans (sX.trans m9)
              change FrK _ _ _ _ _ (upd Hc p9 (.tup ((odd4 s9).map V.str)))
              generalize upd Hc p9 (.tup ((odd4 s9).map V.str)) = HY at f9 S9 ⊢
              refine frK (walk_tup (xs := (odd4 s9).map V.str)) (Pend HY t g D (grD G).shown s9) ⟨_, _, _, _, _, _, _, _, _, rfl, fun _ _ h => h⟩ (fun i σ H' _ h => ?_) (fun i x σ Ha Hb hi hp hy => ?_) (fun σ Ha hp => ?_)
              · obtain ⟨y2, y4, y7, y8, y9, y10, y11, y12, y13, rfl, sA⟩ := h
                exact .inl (.inl (sA _ _ f9))
              · obtain ⟨y2, y4, y7, y8, y9, y10, y11, y12, y13, rfl, sA⟩ := hp
                obtain ⟨rfl, hx'⟩ := hy
                obtain ⟨o, eo, rfl⟩ := strs_at hx'
                have om := List.mem_of_getElem? eo
                simp [tSeq, tAsg, tIf, tIfS, tVar, tC, tOp, tUn, rI, rI0, rU, tCB, tCons, tNil, tLst, tTup, tRet, gName, gCons, gNil, gSub, rSetL, tTest, tB, tNot, tAnd, tOr, tAndV, tOrV, tNotV, tNext, tDrop, tCall, tCallK, gKbV, tSl, tNoPart, tPart, tPar, rEq, rNe, tLc_eq, tFor_eq, iRng1, L2.start, cxOf, Cx.nox, iTup]
                refine ⟨szl _ (by decide), fun pa na => ⟨⟨_, .inl (.inl upd_same)⟩, ?_⟩⟩
                have ma := Same.new (o := .tup [V.int 0, V.int 1]) na
                have fa : (upd Hb pa (.tup [V.int 0, V.int 1])) pa = some (.tup [V.int 0, V.int 1]) := upd_same
                have SA := sA.trans ma
                generalize upd Hb pa (.tup [V.int 0, V.int 1]) = HZ at fa SA ⊢
                refine lcK (walk_tup (xs := [V.int 0, V.int 1])) (Ptwo HZ o) (fun D nD => ⟨Same.new nD, upd_same⟩) (fun D i H' _ h => .inl (.inl (h.1 _ _ fa))) (fun D5 i5 x5 Hd He nD5 hi5 hp5 hy5 => ?_) (fun D5 Hd nD5 hp5 => ?_)
                · obtain ⟨s5, e5⟩ := hp5
                  obtain ⟨rfl, hx5⟩ := hy5
                  obtain ⟨m, rfl⟩ : ∃ m : Nat, x5 = .int m := by
                    rcases i5 with _ | _ | i5
                    · cases hx5; exact ⟨0, rfl⟩
                    · cases hx5; exact ⟨1, rfl⟩
                    · simp at hi5; omega
                  simp [tSeq, tAsg, tIf, tIfS, tVar, tC, tOp, tUn, rI, rI0, rU, tCB, tCons, tNil, tLst, tTup, tRet, gName, gCons, gNil, gSub, rSetL, tTest, tB, tNot, tAnd, tOr, tAndV, tOrV, tNotV, tNext, tDrop, tCall, tCallK, gKbV, tSl, tNoPart, tPart, tPar, rEq, rNe, tLc_eq, tFor_eq, iRng1, L2.start, cxOf, Cx.nox, wipe, tYes]
                  refine ⟨m, .ref g, G, o, rfl, Dp.same (S9.trans (SA.trans s5)) D6', by omega, bd', odd_none hG hs9 o om, fun H' s' => ⟨_, s' _ _ e5, by rw [List.length_replicate, sizeLine_eq]; simp at hi5; omega, fun b u e => by rw [upd_ne (ne_of_none e nD5)]; exact s' _ _ (s5 _ _ e), ?_⟩⟩
                  rw [upd_same]; simp [List.replicate_succ']
                · obtain ⟨s5, e5⟩ := hp5
                  refine ⟨szl _ (by decide), fun pb nb => ?_⟩
                  have mb := Same.new (o := .lst [V.str o, V.str o]) nb
                  have ok2 : okT [o, o] := fun x hx => by
                    have : x = o := by simpa using hx
                    rw [this]; exact odd_ok hsw o om
                  refine ⟨liD [o, o], liD [o, o], .lst (.inl (.inl (mb _ _ e5))) (dpAll_strs [o, o]), .lst (.inl (.inl upd_same)) (dpAll_strs [o, o]), shaped_li ok2, shaped_li ok2, ?_⟩
                  rw [eqv_li]
                  exact .inl ⟨by simp, _, _, _, _, _, _, _, _, _, rfl, SA.trans (s5.trans mb)⟩
              · obtain ⟨y2, y4, y7, y8, y9, y10, y11, y12, y13, rfl, sA⟩ := hp
                simp [tSeq, tAsg, tIf, tIfS, tVar, tC, tOp, tUn, rI, rI0, rU, tCB, tCons, tNil, tLst, tTup, tRet, gName, gCons, gNil, gSub, rSetL, tTest, tB, tNot, tAnd, tOr, tAndV, tOrV, tNotV, tNext, tDrop, tCall, tCallK, gKbV, tSl, tNoPart, tPart, tPar, rEq, rNe, tLc_eq, tFor_eq, iRng1, L2.start, cxOf, Cx.nox]
                have sh := show_gr G
                have SE := S9.trans sA
                refine ⟨g, grD G, rfl, Dp.same SE D6', sh.1, sh.2.1, by have := depth_gr G; simp only [PyData.depth]; omega, shown_gr hG (by omega), rfl, ?_⟩
                rw [if_pos rfl]
                intro pa na
                have ma := Same.new (o := .tup []) na
                refine ⟨szl _ (by decide), fun pb nb => ?_⟩
                have mb := Same.new (o := .lst [V.str (Str.ofString "a")]) nb
                refine ⟨.ref pa, .tuple [], [], pb, [Str.ofString "a"], rfl, .tup (.inl (.inl (mb _ _ upd_same))) .nil, by simp [flat, flats], by simp, fun _ h => (by cases h), .inl (.inl (.inl upd_same)), fun r Hr nr sr er => fun pc nc => ?_⟩
                have mc := Same.new (o := .lst []) nc
                refine ⟨.ref r, .ref pc, .list [], rfl, .lst (.inl (.inl (mc _ _ er))) .nil, .lst (.inl (.inl upd_same)) .nil, ⟨by simp, fun _ h => (by cases h)⟩, fun H' s' => ?_⟩
                have tot := SE.trans (ma.trans (mb.trans (sr.trans (mc.trans s'))))
                exact q H' (X6.trans (Ext.of tot)) ⟨_, T6.same tot⟩
end
theorem sc_law : FnScope ["_law_script", "_law_cells", "_law_k"] ["_law_script"] (defScope s_law) := ⟨rfl, rfl, rfl, by decide +kernel, rfl, by decide +kernel, by decide +kernel⟩
section
variable {P : Program} {w : World} {K : PySem.W.Frag} {mg : Str → Option Value} {base : Heap}
def sp_law (K : PySem.W.Frag) : Sp := fun vs H Q _ => ∃ (a : Addr) (ns : List Int), vs = [.ref a] ∧ SqL K H a (ns.map V.int) ∧ ns.length ≤ 63 ∧ ∀ H', Q (.bl true) H'
def Plaw (a c : Addr) (cs : List Int) (_ : Nat) (σ : L2.St) (H' : Hp) : Prop := ∃ y : Option V, σ = [some (.ref a), some (.ref c), y] ∧ H' c = some (.lst (cs.map V.int))
theorem ok_law (T : Txt K mg) : FnOkG P w K mg base CX0 12 T.f_law T.fd_law ["_law_script"] (sp_law K) := by
  refine okG T.F_law sc_law (fun vs H Q E h => ?_) (fun cdv A outer s H vs Q E noRepr hr h => ?_)
  · obtain ⟨a, ns, rfl, _⟩ := h
    rfl
  · obtain ⟨a, ns, rfl, hS, hlen, q⟩ := h
    refine ⟨_, (pss_cons (ps_set (i := 1) sc_law.nd rfl (by first | exact Or.inl rfl | exact Or.inr rfl) (pe_call (ok__law_folded T) (hr.mono (by decide)) (by rfl) T.g__law_folded T.F__law_folded.kp T.b__law_folded .nil pass0 (pa_cons (pv 0) (pa_cons pe_int pa_nil))))
      (pss_cons (ps_for PassesOwn.never rfl (pi_range1 (by rfl) T.m_range (pa_cons (pe_callB (call_max2 rfl) (by rfl) T.m_max (by decide +kernel) (pa_cons pe_int (pa_cons (pe_callB call_len_seq (by rfl) T.m_len (by decide +kernel) (pa_cons (pv 1) pa_nil)) pa_nil))) pa_nil)) (pg_name (i := 2) sc_law.nd rfl (by first | exact Or.inl rfl | exact Or.inr rfl))
      (pss_one (ps_if (pt_not (pt_val (pe_callG (ok__law_right T) noRepr (hr.mono (by decide)) (by rfl) T.g__law_right T.F__law_right.kp T.b__law_right pass0 (pa_cons (pe_call (ok__law_tape T) (hr.mono (by decide)) (by rfl) T.g__law_tape T.F__law_tape.kp T.b__law_tape .nil pass0 (pa_cons (pv 1) (pa_cons (pv 2) pa_nil))) pa_nil)))) (pss_one (ps_ret pe_bl)) pss_nil)))
      (pss_one (ps_ret pe_bl)))), ?_⟩
    simp [tSeq, tAsg, tIf, tIfS, tVar, tC, tOp, tUn, rI, rI0, rU, tCB, tCons, tNil, tLst, tTup, tRet, gName, gCons, gNil, gSub, rSetL, tTest, tB, tNot, tAnd, tOr, tAndV, tOrV, tNotV, tNext, tDrop, tCall, tCallK, gKbV, tSl, tNoPart, tPart, tPar, rEq, rNe, tLc_eq, tFor_eq, iRng1, L2.start, cxOf, Cx.nox]
    refine ⟨a, ns, 3, rfl, hS, hlen, by decide, by decide, fun c H1 cs lcs _ nc s1 hc => ?_⟩
    refine ⟨c, rfl, _, .inl (.inl (.inl hc)), 1, _, ⟨rfl, rfl⟩, ?_, ?_, ?_⟩
    · split <;> omega
    · split
      · rw [List.length_map]; omega
      · omega
    · generalize hn : (if (1 : Int) < ((cs.map V.int).length : Nat) then (((cs.map V.int).length : Nat) : Int) else 1).toNat = n
      have n2 : n ≤ 3 := by
        rw [← hn]
        rw [List.length_map]
        split <;> omega
      refine frK (walk_range (lo := 0) (n := n)) (Plaw a c cs) ⟨_, rfl, hc⟩ (fun _ _ _ _ _ => trivial) (fun i x σ Ha Hb hi hp hy => ?_) (fun σ Ha hp => ?_)
      · obtain ⟨rfl, rfl⟩ := hy
        obtain ⟨y, rfl, e1⟩ := hp
        simp [tSeq, tAsg, tIf, tIfS, tVar, tC, tOp, tUn, rI, rI0, rU, tCB, tCons, tNil, tLst, tTup, tRet, gName, gCons, gNil, gSub, rSetL, tTest, tB, tNot, tAnd, tOr, tAndV, tOrV, tNotV, tNext, tDrop, tCall, tCallK, gKbV, tSl, tNoPart, tPart, tPar, rEq, rNe, tLc_eq, tFor_eq, iRng1, L2.start, cxOf, Cx.nox]
        refine ⟨c, cs, i, rfl, .inl (.inl e1), by omega, by omega, fun t nt H2 T2 k2 => ⟨t, rfl, T2, fun H3 x3 _ => .inr ⟨rfl, _, rfl, x3 _ _ (ne_of_none e1 nt) (by rw [k2 _ (ne_of_none e1 nt)]; exact e1)⟩⟩⟩
      · obtain ⟨y, rfl, e1⟩ := hp
        simp [tSeq, tAsg, tIf, tIfS, tVar, tC, tOp, tUn, rI, rI0, rU, tCB, tCons, tNil, tLst, tTup, tRet, gName, gCons, gNil, gSub, rSetL, tTest, tB, tNot, tAnd, tOr, tAndV, tOrV, tNotV, tNext, tDrop, tCall, tCallK, gKbV, tSl, tNoPart, tPart, tPar, rEq, rNe, tLc_eq, tFor_eq, iRng1, L2.start, cxOf, Cx.nox]
        exact q _
end
theorem rev_rel : ∀ {vs : List V} {us : List Value}, Vals vs us → Vals vs.reverse us.reverse
  | _, _, .nil => .nil
  | _, _, .cons r t => by
    rw [List.reverse_cons, List.reverse_cons]
    exact (rev_rel t).append (.cons r .nil)
theorem gKb_rel {vs zs : List V} {us ws : List Value} (h1 : Vals vs us) (h2 : Vals zs ws) : Vals (gKbV vs zs) (gKb us ws) := by
  cases h1 with
  | nil => exact rev_rel h2
  | cons r t => exact .nil
theorem all_mk {l : PySem.W.OpenLaw} {w : World} {K : PySem.W.Frag} {h : Heap} {mg : Str → Option Value} {fa f_is_within f_lots_of f_is_ripe f_has_one_within f_ripe f__law_tape f__law_draw f__law_folded f__law_same f__law_lists f__law_names f__law_part f__law_in f__law_least f__law_pairs f__law_made f__law_orchard f__law_ripe f__law_refused f__law_gone_right f__law_six_right f__law_right f_law c_NoFruit c_NoRow c_Stays : Addr} (X : K.In h) (G : h.Ns mainGlobals mg) (hfa : mg "law" = some (.ref fa))
    {od0 an0 od1 an1 od2 an2 od3 an3 od4 an4 od5 an5 od6 an6 od7 an7 od8 an8 od9 an9 od10 an10 od11 an11 od12 an12 od13 an13 od14 an14 od15 an15 od16 an16 od17 an17 od18 an18 od19 an19 od20 an20 od21 an21 od22 an22 : Option Addr} {sl0 sl1 sl2 sl3 sl4 sl5 sl6 sl7 sl8 sl9 sl10 sl11 sl12 sl13 sl14 sl15 sl16 sl17 sl18 sl19 sl20 sl21 sl22 : Array (Option Value)} {oc0 kV0 dc0 pm0 cd0 ct0 oc1 kV1 dc1 pm1 cd1 ct1 oc2 kV2 dc2 pm2 cd2 ct2 oc3 kV3 dc3 pm3 cd3 ct3 oc4 kV4 dc4 pm4 cd4 ct4 oc5 kV5 dc5 pm5 cd5 ct5 oc6 kV6 dc6 pm6 cd6 ct6 oc7 kV7 dc7 pm7 cd7 ct7 oc8 kV8 dc8 pm8 cd8 ct8 oc9 kV9 dc9 pm9 cd9 ct9 oc10 kV10 dc10 pm10 cd10 ct10 oc11 kV11 dc11 pm11 cd11 ct11 oc12 kV12 dc12 pm12 cd12 ct12 oc13 kV13 dc13 pm13 cd13 ct13 oc14 kV14 dc14 pm14 cd14 ct14 oc15 kV15 dc15 pm15 cd15 ct15 oc16 kV16 dc16 pm16 cd16 ct16 oc17 kV17 dc17 pm17 cd17 ct17 oc18 kV18 dc18 pm18 cd18 ct18 oc19 kV19 dc19 pm19 cd19 ct19 oc20 kV20 dc20 pm20 cd20 ct20 oc21 kV21 dc21 pm21 cd21 ct21 oc22 kV22 dc22 pm22 cd22 ct22 : Value}
    (a0 : PySem.W.nsIn K mainGlobals "is_within" = some (some (.ref f_is_within))) (l0 : K.lookup f_is_within = some ⟨oc0, od0, .func (PySem.W.fnOf "is_within" "is_within" (defArgs s_is_within) (defBody s_is_within) (defScope s_is_within) .none kV0 dc0 pm0 an0 cd0 ct0), sl0⟩) (c0 : PySem.W.codeIn K cd0 "is_within" = true) (k0 : PySem.W.keepIn K (.ref f_is_within) = true)
    (a1 : PySem.W.nsIn K mainGlobals "lots_of" = some (some (.ref f_lots_of))) (l1 : K.lookup f_lots_of = some ⟨oc1, od1, .func (PySem.W.fnOf "lots_of" "lots_of" (defArgs s_lots_of) (defBody s_lots_of) (defScope s_lots_of) .none kV1 dc1 pm1 an1 cd1 ct1), sl1⟩) (c1 : PySem.W.codeIn K cd1 "lots_of" = true) (k1 : PySem.W.keepIn K (.ref f_lots_of) = true)
    (a2 : PySem.W.nsIn K mainGlobals "is_ripe" = some (some (.ref f_is_ripe))) (l2 : K.lookup f_is_ripe = some ⟨oc2, od2, .func (PySem.W.fnOf "is_ripe" "is_ripe" (defArgs s_is_ripe) (defBody s_is_ripe) (defScope s_is_ripe) .none kV2 dc2 pm2 an2 cd2 ct2), sl2⟩) (c2 : PySem.W.codeIn K cd2 "is_ripe" = true) (k2 : PySem.W.keepIn K (.ref f_is_ripe) = true)
    (a3 : PySem.W.nsIn K mainGlobals "has_one_within" = some (some (.ref f_has_one_within))) (l3 : K.lookup f_has_one_within = some ⟨oc3, od3, .func (PySem.W.fnOf "has_one_within" "has_one_within" (defArgs s_has_one_within) (defBody s_has_one_within) (defScope s_has_one_within) .none kV3 dc3 pm3 an3 cd3 ct3), sl3⟩) (c3 : PySem.W.codeIn K cd3 "has_one_within" = true) (k3 : PySem.W.keepIn K (.ref f_has_one_within) = true)
    (a4 : PySem.W.nsIn K mainGlobals "ripe" = some (some (.ref f_ripe))) (l4 : K.lookup f_ripe = some ⟨oc4, od4, .func (PySem.W.fnOf "ripe" "ripe" (defArgs s_ripe) (defBody s_ripe) (defScope s_ripe) .none kV4 dc4 pm4 an4 cd4 ct4), sl4⟩) (c4 : PySem.W.codeIn K cd4 "ripe" = true) (k4 : PySem.W.keepIn K (.ref f_ripe) = true)
    (a5 : PySem.W.nsIn K mainGlobals "_law_tape" = some (some (.ref f__law_tape))) (l5 : K.lookup f__law_tape = some ⟨oc5, od5, .func (PySem.W.fnOf "_law_tape" "_law_tape" (defArgs s__law_tape) (defBody s__law_tape) (defScope s__law_tape) .none kV5 dc5 pm5 an5 cd5 ct5), sl5⟩) (c5 : PySem.W.codeIn K cd5 "_law_tape" = true) (k5 : PySem.W.keepIn K (.ref f__law_tape) = true)
    (a6 : PySem.W.nsIn K mainGlobals "_law_draw" = some (some (.ref f__law_draw))) (l6 : K.lookup f__law_draw = some ⟨oc6, od6, .func (PySem.W.fnOf "_law_draw" "_law_draw" (defArgs s__law_draw) (defBody s__law_draw) (defScope s__law_draw) .none kV6 dc6 pm6 an6 cd6 ct6), sl6⟩) (c6 : PySem.W.codeIn K cd6 "_law_draw" = true) (k6 : PySem.W.keepIn K (.ref f__law_draw) = true)
    (a7 : PySem.W.nsIn K mainGlobals "_law_folded" = some (some (.ref f__law_folded))) (l7 : K.lookup f__law_folded = some ⟨oc7, od7, .func (PySem.W.fnOf "_law_folded" "_law_folded" (defArgs s__law_folded) (defBody s__law_folded) (defScope s__law_folded) .none kV7 dc7 pm7 an7 cd7 ct7), sl7⟩) (c7 : PySem.W.codeIn K cd7 "_law_folded" = true) (k7 : PySem.W.keepIn K (.ref f__law_folded) = true)
    (a8 : PySem.W.nsIn K mainGlobals "_law_same" = some (some (.ref f__law_same))) (l8 : K.lookup f__law_same = some ⟨oc8, od8, .func (PySem.W.fnOf "_law_same" "_law_same" (defArgs s__law_same) (defBody s__law_same) (defScope s__law_same) .none kV8 dc8 pm8 an8 cd8 ct8), sl8⟩) (c8 : PySem.W.codeIn K cd8 "_law_same" = true) (k8 : PySem.W.keepIn K (.ref f__law_same) = true)
    (a9 : PySem.W.nsIn K mainGlobals "_law_lists" = some (some (.ref f__law_lists))) (l9 : K.lookup f__law_lists = some ⟨oc9, od9, .func (PySem.W.fnOf "_law_lists" "_law_lists" (defArgs s__law_lists) (defBody s__law_lists) (defScope s__law_lists) .none kV9 dc9 pm9 an9 cd9 ct9), sl9⟩) (c9 : PySem.W.codeIn K cd9 "_law_lists" = true) (k9 : PySem.W.keepIn K (.ref f__law_lists) = true)
    (a10 : PySem.W.nsIn K mainGlobals "_law_names" = some (some (.ref f__law_names))) (l10 : K.lookup f__law_names = some ⟨oc10, od10, .func (PySem.W.fnOf "_law_names" "_law_names" (defArgs s__law_names) (defBody s__law_names) (defScope s__law_names) .none kV10 dc10 pm10 an10 cd10 ct10), sl10⟩) (c10 : PySem.W.codeIn K cd10 "_law_names" = true) (k10 : PySem.W.keepIn K (.ref f__law_names) = true)
    (a11 : PySem.W.nsIn K mainGlobals "_law_part" = some (some (.ref f__law_part))) (l11 : K.lookup f__law_part = some ⟨oc11, od11, .func (PySem.W.fnOf "_law_part" "_law_part" (defArgs s__law_part) (defBody s__law_part) (defScope s__law_part) .none kV11 dc11 pm11 an11 cd11 ct11), sl11⟩) (c11 : PySem.W.codeIn K cd11 "_law_part" = true) (k11 : PySem.W.keepIn K (.ref f__law_part) = true)
    (a12 : PySem.W.nsIn K mainGlobals "_law_in" = some (some (.ref f__law_in))) (l12 : K.lookup f__law_in = some ⟨oc12, od12, .func (PySem.W.fnOf "_law_in" "_law_in" (defArgs s__law_in) (defBody s__law_in) (defScope s__law_in) .none kV12 dc12 pm12 an12 cd12 ct12), sl12⟩) (c12 : PySem.W.codeIn K cd12 "_law_in" = true) (k12 : PySem.W.keepIn K (.ref f__law_in) = true)
    (a13 : PySem.W.nsIn K mainGlobals "_law_least" = some (some (.ref f__law_least))) (l13 : K.lookup f__law_least = some ⟨oc13, od13, .func (PySem.W.fnOf "_law_least" "_law_least" (defArgs s__law_least) (defBody s__law_least) (defScope s__law_least) .none kV13 dc13 pm13 an13 cd13 ct13), sl13⟩) (c13 : PySem.W.codeIn K cd13 "_law_least" = true) (k13 : PySem.W.keepIn K (.ref f__law_least) = true)
    (a14 : PySem.W.nsIn K mainGlobals "_law_pairs" = some (some (.ref f__law_pairs))) (l14 : K.lookup f__law_pairs = some ⟨oc14, od14, .func (PySem.W.fnOf "_law_pairs" "_law_pairs" (defArgs s__law_pairs) (defBody s__law_pairs) (defScope s__law_pairs) .none kV14 dc14 pm14 an14 cd14 ct14), sl14⟩) (c14 : PySem.W.codeIn K cd14 "_law_pairs" = true) (k14 : PySem.W.keepIn K (.ref f__law_pairs) = true)
    (a15 : PySem.W.nsIn K mainGlobals "_law_made" = some (some (.ref f__law_made))) (l15 : K.lookup f__law_made = some ⟨oc15, od15, .func (PySem.W.fnOf "_law_made" "_law_made" (defArgs s__law_made) (defBody s__law_made) (defScope s__law_made) .none kV15 dc15 pm15 an15 cd15 ct15), sl15⟩) (c15 : PySem.W.codeIn K cd15 "_law_made" = true) (k15 : PySem.W.keepIn K (.ref f__law_made) = true)
    (a16 : PySem.W.nsIn K mainGlobals "_law_orchard" = some (some (.ref f__law_orchard))) (l16 : K.lookup f__law_orchard = some ⟨oc16, od16, .func (PySem.W.fnOf "_law_orchard" "_law_orchard" (defArgs s__law_orchard) (defBody s__law_orchard) (defScope s__law_orchard) .none kV16 dc16 pm16 an16 cd16 ct16), sl16⟩) (c16 : PySem.W.codeIn K cd16 "_law_orchard" = true) (k16 : PySem.W.keepIn K (.ref f__law_orchard) = true)
    (a17 : PySem.W.nsIn K mainGlobals "_law_ripe" = some (some (.ref f__law_ripe))) (l17 : K.lookup f__law_ripe = some ⟨oc17, od17, .func (PySem.W.fnOf "_law_ripe" "_law_ripe" (defArgs s__law_ripe) (defBody s__law_ripe) (defScope s__law_ripe) .none kV17 dc17 pm17 an17 cd17 ct17), sl17⟩) (c17 : PySem.W.codeIn K cd17 "_law_ripe" = true) (k17 : PySem.W.keepIn K (.ref f__law_ripe) = true)
    (a18 : PySem.W.nsIn K mainGlobals "_law_refused" = some (some (.ref f__law_refused))) (l18 : K.lookup f__law_refused = some ⟨oc18, od18, .func (PySem.W.fnOf "_law_refused" "_law_refused" (defArgs s__law_refused) (defBody s__law_refused) (defScope s__law_refused) .none kV18 dc18 pm18 an18 cd18 ct18), sl18⟩) (c18 : PySem.W.codeIn K cd18 "_law_refused" = true) (k18 : PySem.W.keepIn K (.ref f__law_refused) = true)
    (a19 : PySem.W.nsIn K mainGlobals "_law_gone_right" = some (some (.ref f__law_gone_right))) (l19 : K.lookup f__law_gone_right = some ⟨oc19, od19, .func (PySem.W.fnOf "_law_gone_right" "_law_gone_right" (defArgs s__law_gone_right) (defBody s__law_gone_right) (defScope s__law_gone_right) .none kV19 dc19 pm19 an19 cd19 ct19), sl19⟩) (c19 : PySem.W.codeIn K cd19 "_law_gone_right" = true) (k19 : PySem.W.keepIn K (.ref f__law_gone_right) = true)
    (a20 : PySem.W.nsIn K mainGlobals "_law_six_right" = some (some (.ref f__law_six_right))) (l20 : K.lookup f__law_six_right = some ⟨oc20, od20, .func (PySem.W.fnOf "_law_six_right" "_law_six_right" (defArgs s__law_six_right) (defBody s__law_six_right) (defScope s__law_six_right) .none kV20 dc20 pm20 an20 cd20 ct20), sl20⟩) (c20 : PySem.W.codeIn K cd20 "_law_six_right" = true) (k20 : PySem.W.keepIn K (.ref f__law_six_right) = true)
    (a21 : PySem.W.nsIn K mainGlobals "_law_right" = some (some (.ref f__law_right))) (l21 : K.lookup f__law_right = some ⟨oc21, od21, .func (PySem.W.fnOf "_law_right" "_law_right" (defArgs s__law_right) (defBody s__law_right) (defScope s__law_right) .none kV21 dc21 pm21 an21 cd21 ct21), sl21⟩) (c21 : PySem.W.codeIn K cd21 "_law_right" = true) (k21 : PySem.W.keepIn K (.ref f__law_right) = true)
    (a22 : PySem.W.nsIn K mainGlobals "law" = some (some (.ref f_law))) (l22 : K.lookup f_law = some ⟨oc22, od22, .func (PySem.W.fnOf "law" "law" (defArgs s_law) (defBody s_law) (defScope s_law) .none kV22 dc22 pm22 an22 cd22 ct22), sl22⟩) (c22 : PySem.W.codeIn K cd22 "law" = true) (k22 : PySem.W.keepIn K (.ref f_law) = true)
    (ac_NoFruit : PySem.W.nsIn K mainGlobals "NoFruit" = some (some (.ref c_NoFruit)))
    (ac_NoRow : PySem.W.nsIn K mainGlobals "NoRow" = some (some (.ref c_NoRow)))
    (ac_Stays : PySem.W.nsIn K mainGlobals "Stays" = some (some (.ref c_Stays)))
    (z_len : PySem.W.nsIn K mainGlobals "len" = some none)
    (z_abs : PySem.W.nsIn K mainGlobals "abs" = some none)
    (z_int : PySem.W.nsIn K mainGlobals "int" = some none)
    (z_list : PySem.W.nsIn K mainGlobals "list" = some none)
    (z_tuple : PySem.W.nsIn K mainGlobals "tuple" = some none)
    (z_all : PySem.W.nsIn K mainGlobals "all" = some none)
    (z_any : PySem.W.nsIn K mainGlobals "any" = some none)
    (z_isinstance : PySem.W.nsIn K mainGlobals "isinstance" = some none)
    (z_max : PySem.W.nsIn K mainGlobals "max" = some none)
    (z_min : PySem.W.nsIn K mainGlobals "min" = some none)
    (z_range : PySem.W.nsIn K mainGlobals "range" = some none)
    (z_enumerate : PySem.W.nsIn K mainGlobals "enumerate" = some none)
    (z_zip : PySem.W.nsIn K mainGlobals "zip" = some none)
    (z_str : PySem.W.nsIn K mainGlobals "str" = some none)
    (z_bool : PySem.W.nsIn K mainGlobals "bool" = some none)
    (z_LookupError : PySem.W.nsIn K mainGlobals "LookupError" = some none)
    (z_repr : PySem.W.nsIn K mainGlobals "repr" = some none)
    (z_sorted : PySem.W.nsIn K mainGlobals "sorted" = some none)
    (z_set : PySem.W.nsIn K mainGlobals "set" = some none)
    {nm_NoFruit q_NoFruit : Str} {N_NoFruit i_NoFruit : Addr} {bs_NoFruit sub_NoFruit : List Value} {sn_NoFruit : List Str} {ab_NoFruit : Bool} {col_NoFruit : Option Bool} {dd_NoFruit od_NoFruit an_NoFruit : Option Addr} {m0_NoFruit m1_NoFruit m2_NoFruit m3_NoFruit m5_NoFruit : Option Value} {sl_NoFruit : Array (Option Value)} {oc_NoFruit dc_NoFruit pm_NoFruit cd_NoFruit ct_NoFruit : Value}
    (xL_NoFruit : K.lookup c_NoFruit = some (excClassObj nm_NoFruit q_NoFruit c_NoFruit N_NoFruit bs_NoFruit [.type "LookupError", .type "Exception", .type "BaseException", .type "object"] true sn_NoFruit sub_NoFruit ab_NoFruit col_NoFruit dd_NoFruit m0_NoFruit m1_NoFruit m2_NoFruit m3_NoFruit m5_NoFruit "LookupError.__new__"))
    (sa_NoFruit : PySem.W.findIn K (.ref c_NoFruit) "__setattr__" = some (some (.builtin "object.__setattr__")))
    (ga_NoFruit : PySem.W.findIn K (.ref c_NoFruit) "__getattribute__" = some (some (.builtin "BaseException.__getattribute__")))
    (gg_NoFruit : PySem.W.findIn K (.ref c_NoFruit) "__getattr__" = some none)
    (nb_NoFruit : PySem.W.findIn K (.ref c_NoFruit) "what" = some none)
    (ai_NoFruit : PySem.W.findIn K (.ref c_NoFruit) "__init__" = some (some (.ref i_NoFruit)))
    (ti_NoFruit : PySem.W.typeIn K (.ref i_NoFruit) = some (.type "function"))
    (li_NoFruit : K.lookup i_NoFruit = some ⟨oc_NoFruit, od_NoFruit, .func (PySem.W.fnOf "__init__" "NoFruit.__init__" (PySem.WhatX.iA ⟨4, 17, 4, 21⟩ ⟨4, 23, 4, 27⟩) (PySem.WhatX.iB ⟨5, 8, 5, 12⟩ ⟨5, 8, 5, 17⟩ ⟨5, 20, 5, 24⟩ ⟨5, 8, 5, 24⟩) PySem.WhatX.iS .none .none dc_NoFruit pm_NoFruit an_NoFruit cd_NoFruit ct_NoFruit), sl_NoFruit⟩)
    (ci_NoFruit : PySem.W.codeIn K cd_NoFruit "NoFruit.__init__" = true)
    (kc_NoFruit : PySem.W.keepIn K (.ref c_NoFruit) = true)
    (ec_NoFruit : PySem.W.subIn K (.ref c_NoFruit) (.type "BaseException") = some true)
    (tc_NoFruit : PySem.W.typeIn K (.ref c_NoFruit) = some (.type "type"))
    (hc_NoFruit : PySem.W.hasDictIn K c_NoFruit = true)
    (ha_NoFruit : PySem.W.findIn K (.ref c_NoFruit) "__class__" = some (some (.builtin "object.__class__")))
    (hm_NoFruit : PySem.W.mroIn K c_NoFruit (.type "object") = some true)
    {nm_NoRow q_NoRow : Str} {N_NoRow i_NoRow : Addr} {bs_NoRow sub_NoRow : List Value} {sn_NoRow : List Str} {ab_NoRow : Bool} {col_NoRow : Option Bool} {dd_NoRow od_NoRow an_NoRow : Option Addr} {m0_NoRow m1_NoRow m2_NoRow m3_NoRow m5_NoRow : Option Value} {sl_NoRow : Array (Option Value)} {oc_NoRow dc_NoRow pm_NoRow cd_NoRow ct_NoRow : Value}
    (xL_NoRow : K.lookup c_NoRow = some (excClassObj nm_NoRow q_NoRow c_NoRow N_NoRow bs_NoRow [.type "LookupError", .type "Exception", .type "BaseException", .type "object"] true sn_NoRow sub_NoRow ab_NoRow col_NoRow dd_NoRow m0_NoRow m1_NoRow m2_NoRow m3_NoRow m5_NoRow "LookupError.__new__"))
    (sa_NoRow : PySem.W.findIn K (.ref c_NoRow) "__setattr__" = some (some (.builtin "object.__setattr__")))
    (ga_NoRow : PySem.W.findIn K (.ref c_NoRow) "__getattribute__" = some (some (.builtin "BaseException.__getattribute__")))
    (gg_NoRow : PySem.W.findIn K (.ref c_NoRow) "__getattr__" = some none)
    (nb_NoRow : PySem.W.findIn K (.ref c_NoRow) "what" = some none)
    (ai_NoRow : PySem.W.findIn K (.ref c_NoRow) "__init__" = some (some (.ref i_NoRow)))
    (ti_NoRow : PySem.W.typeIn K (.ref i_NoRow) = some (.type "function"))
    (li_NoRow : K.lookup i_NoRow = some ⟨oc_NoRow, od_NoRow, .func (PySem.W.fnOf "__init__" "NoRow.__init__" (PySem.WhatX.iA ⟨8, 17, 8, 21⟩ ⟨8, 23, 8, 27⟩) (PySem.WhatX.iB ⟨9, 8, 9, 12⟩ ⟨9, 8, 9, 17⟩ ⟨9, 20, 9, 24⟩ ⟨9, 8, 9, 24⟩) PySem.WhatX.iS .none .none dc_NoRow pm_NoRow an_NoRow cd_NoRow ct_NoRow), sl_NoRow⟩)
    (ci_NoRow : PySem.W.codeIn K cd_NoRow "NoRow.__init__" = true)
    (kc_NoRow : PySem.W.keepIn K (.ref c_NoRow) = true)
    (ec_NoRow : PySem.W.subIn K (.ref c_NoRow) (.type "BaseException") = some true)
    (tc_NoRow : PySem.W.typeIn K (.ref c_NoRow) = some (.type "type"))
    (hc_NoRow : PySem.W.hasDictIn K c_NoRow = true)
    (ha_NoRow : PySem.W.findIn K (.ref c_NoRow) "__class__" = some (some (.builtin "object.__class__")))
    (hm_NoRow : PySem.W.mroIn K c_NoRow (.type "object") = some true)
    {nm_Stays q_Stays : Str} {N_Stays i_Stays : Addr} {bs_Stays sub_Stays : List Value} {sn_Stays : List Str} {ab_Stays : Bool} {col_Stays : Option Bool} {dd_Stays od_Stays an_Stays : Option Addr} {m0_Stays m1_Stays m2_Stays m3_Stays m5_Stays : Option Value} {sl_Stays : Array (Option Value)} {oc_Stays dc_Stays pm_Stays cd_Stays ct_Stays : Value}
    (xL_Stays : K.lookup c_Stays = some (excClassObj nm_Stays q_Stays c_Stays N_Stays bs_Stays [.type "RuntimeError", .type "Exception", .type "BaseException", .type "object"] true sn_Stays sub_Stays ab_Stays col_Stays dd_Stays m0_Stays m1_Stays m2_Stays m3_Stays m5_Stays "RuntimeError.__new__"))
    (sa_Stays : PySem.W.findIn K (.ref c_Stays) "__setattr__" = some (some (.builtin "object.__setattr__")))
    (ga_Stays : PySem.W.findIn K (.ref c_Stays) "__getattribute__" = some (some (.builtin "BaseException.__getattribute__")))
    (gg_Stays : PySem.W.findIn K (.ref c_Stays) "__getattr__" = some none)
    (nb_Stays : PySem.W.findIn K (.ref c_Stays) "what" = some none)
    (ai_Stays : PySem.W.findIn K (.ref c_Stays) "__init__" = some (some (.ref i_Stays)))
    (ti_Stays : PySem.W.typeIn K (.ref i_Stays) = some (.type "function"))
    (li_Stays : K.lookup i_Stays = some ⟨oc_Stays, od_Stays, .func (PySem.W.fnOf "__init__" "Stays.__init__" (PySem.WhatX.iA ⟨12, 17, 12, 21⟩ ⟨12, 23, 12, 27⟩) (PySem.WhatX.iB ⟨13, 8, 13, 12⟩ ⟨13, 8, 13, 17⟩ ⟨13, 20, 13, 24⟩ ⟨13, 8, 13, 24⟩) PySem.WhatX.iS .none .none dc_Stays pm_Stays an_Stays cd_Stays ct_Stays), sl_Stays⟩)
    (ci_Stays : PySem.W.codeIn K cd_Stays "Stays.__init__" = true)
    (kc_Stays : PySem.W.keepIn K (.ref c_Stays) = true)
    (ec_Stays : PySem.W.subIn K (.ref c_Stays) (.type "BaseException") = some true)
    (tc_Stays : PySem.W.typeIn K (.ref c_Stays) = some (.type "type"))
    (hc_Stays : PySem.W.hasDictIn K c_Stays = true)
    (ha_Stays : PySem.W.findIn K (.ref c_Stays) "__class__" = some (some (.builtin "object.__class__")))
    (hm_Stays : PySem.W.mroIn K c_Stays (.type "object") = some true)
    (hnD : PySem.W.specialIn K (.builtin "object.__class__") "__get__" = some (some (.builtin "getset_descriptor.__get__"))) (htD : PySem.W.takesIn K (.builtin "object.__class__") = some true)
    (s_NoFruit_NoFruit : PySem.W.subIn K (.ref c_NoFruit) (.ref c_NoFruit) = some true)
    (s_NoFruit_NoRow : PySem.W.subIn K (.ref c_NoFruit) (.ref c_NoRow) = some false)
    (s_NoRow_NoRow : PySem.W.subIn K (.ref c_NoRow) (.ref c_NoRow) = some true)
    (s_NoFruit_Stays : PySem.W.subIn K (.ref c_NoFruit) (.ref c_Stays) = some false)
    (s_Stays_Stays : PySem.W.subIn K (.ref c_Stays) (.ref c_Stays) = some true)
    (kt_NoFruit_LookupError : PySem.W.subIn K (.ref c_NoFruit) (.type "LookupError") = some true)
    : ∃ fd : FuncData, (∀ (s : Shared) (v : Value), BindsTo s fd ⟨[v], []⟩ [("_law_script", v)]) ∧ ∀ base : Heap, K.In base → base.Ns mainGlobals mg → FnOkG l.prog w K mg base CX0 12 fa fd ["_law_script"] (sp_law K) := by
  have e := hfa.symm.trans (PySem.W.mg_of X G a22)
  cases e
  have F0 := fun_mk (st := s_is_within) l0 c0 k0
  have F1 := fun_mk (st := s_lots_of) l1 c1 k1
  have F2 := fun_mk (st := s_is_ripe) l2 c2 k2
  have F3 := fun_mk (st := s_has_one_within) l3 c3 k3
  have F4 := fun_mk (st := s_ripe) l4 c4 k4
  have F5 := fun_mk (st := s__law_tape) l5 c5 k5
  have F6 := fun_mk (st := s__law_draw) l6 c6 k6
  have F7 := fun_mk (st := s__law_folded) l7 c7 k7
  have F8 := fun_mk (st := s__law_same) l8 c8 k8
  have F9 := fun_mk (st := s__law_lists) l9 c9 k9
  have F10 := fun_mk (st := s__law_names) l10 c10 k10
  have F11 := fun_mk (st := s__law_part) l11 c11 k11
  have F12 := fun_mk (st := s__law_in) l12 c12 k12
  have F13 := fun_mk (st := s__law_least) l13 c13 k13
  have F14 := fun_mk (st := s__law_pairs) l14 c14 k14
  have F15 := fun_mk (st := s__law_made) l15 c15 k15
  have F16 := fun_mk (st := s__law_orchard) l16 c16 k16
  have F17 := fun_mk (st := s__law_ripe) l17 c17 k17
  have F18 := fun_mk (st := s__law_refused) l18 c18 k18
  have F19 := fun_mk (st := s__law_gone_right) l19 c19 k19
  have F20 := fun_mk (st := s__law_six_right) l20 c20 k20
  have F21 := fun_mk (st := s__law_right) l21 c21 k21
  have F22 := fun_mk (st := s_law) l22 c22 k22
  let T : Txt K mg := {
    f_is_within := f_is_within, fd_is_within := _, F_is_within := F0, b_is_within := F0.binds (ps := ["one", "other"]) fun _ _ _ _ _ _ us hl => (match us, hl with | [_, _], _ => rfl), g_is_within := PySem.W.mg_of X G a0,
    f_lots_of := f_lots_of, fd_lots_of := _, F_lots_of := F1, b_lots_of := F1.binds (ps := ["orchard", "fruit"]) fun _ _ _ _ _ _ us hl => (match us, hl with | [_, _], _ => rfl), g_lots_of := PySem.W.mg_of X G a1,
    f_is_ripe := f_is_ripe, fd_is_ripe := _, F_is_ripe := F2, b_is_ripe := F2.binds (ps := ["orchard", "fruit", "gone"]) fun _ _ _ _ _ _ us hl => (match us, hl with | [_, _, _], _ => rfl), g_is_ripe := PySem.W.mg_of X G a2,
    f_has_one_within := f_has_one_within, fd_has_one_within := _, F_has_one_within := F3, b_has_one_within := F3.binds (ps := ["lots", "gone"]) fun _ _ _ _ _ _ us hl => (match us, hl with | [_, _], _ => rfl), g_has_one_within := PySem.W.mg_of X G a3,
    f_ripe := f_ripe, fd_ripe := _, F_ripe := F4, b_ripe := F4.binds (ps := ["orchard", "gone"]) fun _ _ _ _ _ _ us hl => (match us, hl with | [_, _], _ => rfl), g_ripe := PySem.W.mg_of X G a4,
    f__law_tape := f__law_tape, fd__law_tape := _, F__law_tape := F5, b__law_tape := F5.binds (ps := ["_law_script", "_law_k"]) fun _ _ _ _ _ _ us hl => (match us, hl with | [_, _], _ => rfl), g__law_tape := PySem.W.mg_of X G a5,
    f__law_draw := f__law_draw, fd__law_draw := _, F__law_draw := F6, b__law_draw := F6.binds (ps := ["_law_tape_here", "_law_many"]) fun _ _ _ _ _ _ us hl => (match us, hl with | [_, _], _ => rfl), g__law_draw := PySem.W.mg_of X G a6,
    f__law_folded := f__law_folded, fd__law_folded := _, F__law_folded := F7, b__law_folded := F7.binds (ps := ["_law_script", "_law_many"]) fun _ _ _ _ _ _ us hl => (match us, hl with | [_, _], _ => rfl), g__law_folded := PySem.W.mg_of X G a7,
    f__law_same := f__law_same, fd__law_same := _, F__law_same := F8, b__law_same := F8.binds (ps := ["_law_found", "_law_due"]) fun _ _ _ _ _ _ us hl => (match us, hl with | [_, _], _ => rfl), g__law_same := PySem.W.mg_of X G a8,
    f__law_lists := f__law_lists, fd__law_lists := _, F__law_lists := F9, b__law_lists := F9.binds (ps := ["_law_thing"]) fun _ _ _ _ _ _ us hl => (match us, hl with | [_], _ => rfl), g__law_lists := PySem.W.mg_of X G a9,
    f__law_names := f__law_names, fd__law_names := _, F__law_names := F10, b__law_names := F10.binds (ps := ["_law_tape_here", "_law_many"]) fun _ _ _ _ _ _ us hl => (match us, hl with | [_, _], _ => rfl), g__law_names := PySem.W.mg_of X G a10,
    f__law_part := f__law_part, fd__law_part := _, F__law_part := F11, b__law_part := F11.binds (ps := ["_law_tape_here", "_law_some", "_law_many"]) fun _ _ _ _ _ _ us hl => (match us, hl with | [_, _, _], _ => rfl), g__law_part := PySem.W.mg_of X G a11,
    f__law_in := f__law_in, fd__law_in := _, F__law_in := F12, b__law_in := F12.binds (ps := ["_law_one", "_law_other"]) fun _ _ _ _ _ _ us hl => (match us, hl with | [_, _], _ => rfl), g__law_in := PySem.W.mg_of X G a12,
    f__law_least := f__law_least, fd__law_least := _, F__law_least := F13, b__law_least := F13.binds (ps := ["_law_lots"]) fun _ _ _ _ _ _ us hl => (match us, hl with | [_], _ => rfl), g__law_least := PySem.W.mg_of X G a13,
    f__law_pairs := f__law_pairs, fd__law_pairs := _, F__law_pairs := F14, b__law_pairs := F14.binds (ps := ["_law_tape_here", "_law_names_here"]) fun _ _ _ _ _ _ us hl => (match us, hl with | [_, _], _ => rfl), g__law_pairs := PySem.W.mg_of X G a14,
    f__law_made := f__law_made, fd__law_made := _, F__law_made := F15, b__law_made := F15.binds (ps := ["_law_pairs_here"]) fun _ _ _ _ _ _ us hl => (match us, hl with | [_], _ => rfl), g__law_made := PySem.W.mg_of X G a15,
    f__law_orchard := f__law_orchard, fd__law_orchard := _, F__law_orchard := F16, b__law_orchard := F16.binds (ps := ["_law_tape_here", "_law_few", "_law_most"]) fun _ _ _ _ _ _ us hl => (match us, hl with | [_, _, _], _ => rfl), g__law_orchard := PySem.W.mg_of X G a16,
    f__law_ripe := f__law_ripe, fd__law_ripe := _, F__law_ripe := F17, b__law_ripe := F17.binds (ps := ["_law_grove", "_law_off"]) fun _ _ _ _ _ _ us hl => (match us, hl with | [_, _], _ => rfl), g__law_ripe := PySem.W.mg_of X G a17,
    f__law_refused := f__law_refused, fd__law_refused := _, F__law_refused := F18, b__law_refused := F18.binds (ps := ["_law_way", "_law_grove", "_law_plum"]) fun _ _ _ _ _ _ us hl => (match us, hl with | [_, _, _], _ => rfl), g__law_refused := PySem.W.mg_of X G a18,
    f__law_gone_right := f__law_gone_right, fd__law_gone_right := _, F__law_gone_right := F19, b__law_gone_right := F19.binds (ps := ["_law_grove", "_law_names_here", "_law_off"]) fun _ _ _ _ _ _ us hl => (match us, hl with | [_, _, _], _ => rfl), g__law_gone_right := PySem.W.mg_of X G a19,
    f__law_six_right := f__law_six_right, fd__law_six_right := _, F__law_six_right := F20, b__law_six_right := F20.binds (ps := ["_law_names_here"]) fun _ _ _ _ _ _ us hl => (match us, hl with | [_], _ => rfl), g__law_six_right := PySem.W.mg_of X G a20,
    f__law_right := f__law_right, fd__law_right := _, F__law_right := F21, b__law_right := F21.binds (ps := ["_law_tape_here"]) fun _ _ _ _ _ _ us hl => (match us, hl with | [_], _ => rfl), g__law_right := PySem.W.mg_of X G a21,
    f_law := fa, fd_law := _, F_law := F22, b_law := F22.binds (ps := ["_law_script"]) fun _ _ _ _ _ _ us hl => (match us, hl with | [_], _ => rfl), g_law := PySem.W.mg_of X G a22,
    c_NoFruit := c_NoFruit, g_NoFruit := PySem.W.mg_of X G ac_NoFruit,
    c_NoRow := c_NoRow, g_NoRow := PySem.W.mg_of X G ac_NoRow,
    c_Stays := c_Stays, g_Stays := PySem.W.mg_of X G ac_Stays,
    kb_ripe := ⟨fun s us ws _ hl => (match us, hl with | [], hl => (match ws, (show ws.length = 2 by simpa [gKb] using hl) with | [_, _], _ => .of_eq rfl)), fun r1 r2 => gKb_rel r1 r2⟩,
    kb_is_ripe := ⟨fun s us ws _ hl => (match us, hl with | [], hl => (match ws, (show ws.length = 3 by simpa [gKb] using hl) with | [_, _, _], _ => .of_eq rfl)), fun r1 r2 => gKb_rel r1 r2⟩,
    kb_lots_of := ⟨fun s us ws _ hl => (match us, hl with | [], hl => (match ws, (show ws.length = 2 by simpa [gKb] using hl) with | [_, _], _ => .of_eq rfl)), fun r1 r2 => gKb_rel r1 r2⟩,
    m_len := PySem.W.mg_none_of X G z_len, m_abs := PySem.W.mg_none_of X G z_abs, m_int := PySem.W.mg_none_of X G z_int, m_list := PySem.W.mg_none_of X G z_list, m_tuple := PySem.W.mg_none_of X G z_tuple, m_all := PySem.W.mg_none_of X G z_all, m_any := PySem.W.mg_none_of X G z_any, m_isinstance := PySem.W.mg_none_of X G z_isinstance, m_max := PySem.W.mg_none_of X G z_max, m_min := PySem.W.mg_none_of X G z_min, m_range := PySem.W.mg_none_of X G z_range, m_enumerate := PySem.W.mg_none_of X G z_enumerate, m_zip := PySem.W.mg_none_of X G z_zip, m_str := PySem.W.mg_none_of X G z_str, m_bool := PySem.W.mg_none_of X G z_bool, m_LookupError := PySem.W.mg_none_of X G z_LookupError, m_repr := PySem.W.mg_none_of X G z_repr, m_sorted := PySem.W.mg_none_of X G z_sorted, m_set := PySem.W.mg_none_of X G z_set,
    i_NoFruit := i_NoFruit, w_NoFruit := { gC := PySem.W.mg_of X G ac_NoFruit, cls := ⟨_, _, _, _, _, _, _, _, _, _, _, _, _, _, _, _, _, _, PySem.WhatX.under_LookupError, xL_NoFruit⟩, sa := sa_NoFruit, ga := ga_NoFruit, gg := gg_NoFruit, noN := nb_NoFruit, iC := ai_NoFruit, tC := ti_NoFruit, kC := kc_NoFruit, exC := ec_NoFruit, tyC := tc_NoFruit, hdC := hc_NoFruit, fn := ⟨_, _, _, _, _, _, _, _, _, _, _, _, _, _, _, li_NoFruit, ci_NoFruit⟩ }, is_NoFruit := ⟨ga_NoFruit, gg_NoFruit, ec_NoFruit, hc_NoFruit, ha_NoFruit, hnD, htD, hm_NoFruit⟩,
    i_NoRow := i_NoRow, w_NoRow := { gC := PySem.W.mg_of X G ac_NoRow, cls := ⟨_, _, _, _, _, _, _, _, _, _, _, _, _, _, _, _, _, _, PySem.WhatX.under_LookupError, xL_NoRow⟩, sa := sa_NoRow, ga := ga_NoRow, gg := gg_NoRow, noN := nb_NoRow, iC := ai_NoRow, tC := ti_NoRow, kC := kc_NoRow, exC := ec_NoRow, tyC := tc_NoRow, hdC := hc_NoRow, fn := ⟨_, _, _, _, _, _, _, _, _, _, _, _, _, _, _, li_NoRow, ci_NoRow⟩ }, is_NoRow := ⟨ga_NoRow, gg_NoRow, ec_NoRow, hc_NoRow, ha_NoRow, hnD, htD, hm_NoRow⟩,
    i_Stays := i_Stays, w_Stays := { gC := PySem.W.mg_of X G ac_Stays, cls := ⟨_, _, _, _, _, _, _, _, _, _, _, _, _, _, _, _, _, _, PySem.WhatX.under_RuntimeError, xL_Stays⟩, sa := sa_Stays, ga := ga_Stays, gg := gg_Stays, noN := nb_Stays, iC := ai_Stays, tC := ti_Stays, kC := kc_Stays, exC := ec_Stays, tyC := tc_Stays, hdC := hc_Stays, fn := ⟨_, _, _, _, _, _, _, _, _, _, _, _, _, _, _, li_Stays, ci_Stays⟩ }, is_Stays := ⟨ga_Stays, gg_Stays, ec_Stays, hc_Stays, ha_Stays, hnD, htD, hm_Stays⟩,
    x_NoFruit_NoFruit := exm_own ec_NoFruit hc_NoFruit tc_NoFruit s_NoFruit_NoFruit, ki_NoFruit_NoFruit := kit_own ec_NoFruit hc_NoFruit tc_NoFruit s_NoFruit_NoFruit s_NoFruit_NoFruit,
    x_NoFruit_NoRow := exm_own ec_NoRow hc_NoRow tc_NoRow s_NoFruit_NoRow, ki_NoFruit_NoRow := kit_own ec_NoRow hc_NoRow tc_NoRow s_NoRow_NoRow s_NoFruit_NoRow,
    x_NoFruit_Stays := exm_own ec_Stays hc_Stays tc_Stays s_NoFruit_Stays, ki_NoFruit_Stays := kit_own ec_Stays hc_Stays tc_Stays s_Stays_Stays s_NoFruit_Stays,
    kt_NoFruit_LookupError := kit_builtin (by decide +kernel) kt_NoFruit_LookupError }
  exact ⟨_, fun s v => .of_eq rfl, fun base _ _ => ok_law T⟩
end Rp
open PySem PySem.W PyProof.Rows
set_option maxHeartbeats 0 in
theorem PySem.Challenge.cw_ripepicks_k05_ripe_by_what_is_gone_holds : PySem.Challenge.rw_ripepicks_k05_ripe_by_what_is_gone.Holds := by
  w_on; o_law; k_head; (case hw => w_witness2)
  k_fill
  refine Rp.walk_goes (l := PySem.Challenge.rw_ripepicks_k05_ripe_by_what_is_gone) (n := 63) (lev := 12) (x := "_law_script") (promise := fun K => Rp.sp_law K) rfl (by rw [sizeLine_eq]; decide) rfl ⟨rfl, by decide, by decide⟩ (fun w h Y => PySem.W.kIn_of Y) ?F (fun K H a ns hl hS => ⟨a, ns, rfl, hS, hl, fun _ => rfl⟩)
  case F =>
    intro w mg fa h KX G hmg
    refine' Rp.all_mk KX G hmg ?a0 ?l0 ?c0 ?k0 ?a1 ?l1 ?c1 ?k1 ?a2 ?l2 ?c2 ?k2 ?a3 ?l3 ?c3 ?k3 ?a4 ?l4 ?c4 ?k4 ?a5 ?l5 ?c5 ?k5 ?a6 ?l6 ?c6 ?k6 ?a7 ?l7 ?c7 ?k7 ?a8 ?l8 ?c8 ?k8 ?a9 ?l9 ?c9 ?k9 ?a10 ?l10 ?c10 ?k10 ?a11 ?l11 ?c11 ?k11 ?a12 ?l12 ?c12 ?k12 ?a13 ?l13 ?c13 ?k13 ?a14 ?l14 ?c14 ?k14 ?a15 ?l15 ?c15 ?k15 ?a16 ?l16 ?c16 ?k16 ?a17 ?l17 ?c17 ?k17 ?a18 ?l18 ?c18 ?k18 ?a19 ?l19 ?c19 ?k19 ?a20 ?l20 ?c20 ?k20 ?a21 ?l21 ?c21 ?k21 ?a22 ?l22 ?c22 ?k22 ?ac_NoFruit ?ac_NoRow ?ac_Stays ?z_len ?z_abs ?z_int ?z_list ?z_tuple ?z_all ?z_any ?z_isinstance ?z_max ?z_min ?z_range ?z_enumerate ?z_zip ?z_str ?z_bool ?z_LookupError ?z_repr ?z_sorted ?z_set ?xL_NoFruit ?sa_NoFruit ?ga_NoFruit ?gg_NoFruit ?nb_NoFruit ?ai_NoFruit ?ti_NoFruit ?li_NoFruit ?ci_NoFruit ?kc_NoFruit ?ec_NoFruit ?tc_NoFruit ?hc_NoFruit ?ha_NoFruit ?hm_NoFruit ?xL_NoRow ?sa_NoRow ?ga_NoRow ?gg_NoRow ?nb_NoRow ?ai_NoRow ?ti_NoRow ?li_NoRow ?ci_NoRow ?kc_NoRow ?ec_NoRow ?tc_NoRow ?hc_NoRow ?ha_NoRow ?hm_NoRow ?xL_Stays ?sa_Stays ?ga_Stays ?gg_Stays ?nb_Stays ?ai_Stays ?ti_Stays ?li_Stays ?ci_Stays ?kc_Stays ?ec_Stays ?tc_Stays ?hc_Stays ?ha_Stays ?hm_Stays ?hnD ?htD ?s_NoFruit_NoFruit ?s_NoFruit_NoRow ?s_NoRow_NoRow ?s_NoFruit_Stays ?s_Stays_Stays ?kt_NoFruit_LookupError
    (case a0 => k_is)
    (case l0 => k_is)
    (case c0 => k_is)
    (case k0 => k_is)
    (case a1 => k_is)
    (case l1 => k_is)
    (case c1 => k_is)
    (case k1 => k_is)
    (case a2 => k_is)
    (case l2 => k_is)
    (case c2 => k_is)
    (case k2 => k_is)
    (case a3 => k_is)
    (case l3 => k_is)
    (case c3 => k_is)
    (case k3 => k_is)
    (case a4 => k_is)
    (case l4 => k_is)
    (case c4 => k_is)
    (case k4 => k_is)
    (case a5 => k_is)
    (case l5 => k_is)
    (case c5 => k_is)
    (case k5 => k_is)
    (case a6 => k_is)
    (case l6 => k_is)
    (case c6 => k_is)
    (case k6 => k_is)
    (case a7 => k_is)
    (case l7 => k_is)
    (case c7 => k_is)
    (case k7 => k_is)
    (case a8 => k_is)
    (case l8 => k_is)
    (case c8 => k_is)
    (case k8 => k_is)
    (case a9 => k_is)
    (case l9 => k_is)
    (case c9 => k_is)
    (case k9 => k_is)
    (case a10 => k_is)
    (case l10 => k_is)
    (case c10 => k_is)
    (case k10 => k_is)
    (case a11 => k_is)
    (case l11 => k_is)
    (case c11 => k_is)
    (case k11 => k_is)
    (case a12 => k_is)
    (case l12 => k_is)
    (case c12 => k_is)
    (case k12 => k_is)
    (case a13 => k_is)
    (case l13 => k_is)
    (case c13 => k_is)
    (case k13 => k_is)
    (case a14 => k_is)
    (case l14 => k_is)
    (case c14 => k_is)
    (case k14 => k_is)
    (case a15 => k_is)
    (case l15 => k_is)
    (case c15 => k_is)
    (case k15 => k_is)
    (case a16 => k_is)
    (case l16 => k_is)
    (case c16 => k_is)
    (case k16 => k_is)
    (case a17 => k_is)
    (case l17 => k_is)
    (case c17 => k_is)
    (case k17 => k_is)
    (case a18 => k_is)
    (case l18 => k_is)
    (case c18 => k_is)
    (case k18 => k_is)
    (case a19 => k_is)
    (case l19 => k_is)
    (case c19 => k_is)
    (case k19 => k_is)
    (case a20 => k_is)
    (case l20 => k_is)
    (case c20 => k_is)
    (case k20 => k_is)
    (case a21 => k_is)
    (case l21 => k_is)
    (case c21 => k_is)
    (case k21 => k_is)
    (case a22 => k_is)
    (case l22 => k_is)
    (case c22 => k_is)
    (case k22 => k_is)
    (case ac_NoFruit => k_is)
    (case ac_NoRow => k_is)
    (case ac_Stays => k_is)
    (case z_len => k_is)
    (case z_abs => k_is)
    (case z_int => k_is)
    (case z_list => k_is)
    (case z_tuple => k_is)
    (case z_all => k_is)
    (case z_any => k_is)
    (case z_isinstance => k_is)
    (case z_max => k_is)
    (case z_min => k_is)
    (case z_range => k_is)
    (case z_enumerate => k_is)
    (case z_zip => k_is)
    (case z_str => k_is)
    (case z_bool => k_is)
    (case z_LookupError => k_is)
    (case z_repr => k_is)
    (case z_sorted => k_is)
    (case z_set => k_is)
    (case xL_NoFruit => k_is)
    (case sa_NoFruit => k_is)
    (case ga_NoFruit => k_is)
    (case gg_NoFruit => k_is)
    (case nb_NoFruit => k_is)
    (case ai_NoFruit => k_is)
    (case ti_NoFruit => k_is)
    (case li_NoFruit => k_is)
    (case ci_NoFruit => k_is)
    (case kc_NoFruit => k_is)
    (case ec_NoFruit => k_is)
    (case tc_NoFruit => k_is)
    (case hc_NoFruit => k_is)
    (case ha_NoFruit => k_is)
    (case hm_NoFruit => k_is)
    (case xL_NoRow => k_is)
    (case sa_NoRow => k_is)
    (case ga_NoRow => k_is)
    (case gg_NoRow => k_is)
    (case nb_NoRow => k_is)
    (case ai_NoRow => k_is)
    (case ti_NoRow => k_is)
    (case li_NoRow => k_is)
    (case ci_NoRow => k_is)
    (case kc_NoRow => k_is)
    (case ec_NoRow => k_is)
    (case tc_NoRow => k_is)
    (case hc_NoRow => k_is)
    (case ha_NoRow => k_is)
    (case hm_NoRow => k_is)
    (case xL_Stays => k_is)
    (case sa_Stays => k_is)
    (case ga_Stays => k_is)
    (case gg_Stays => k_is)
    (case nb_Stays => k_is)
    (case ai_Stays => k_is)
    (case ti_Stays => k_is)
    (case li_Stays => k_is)
    (case ci_Stays => k_is)
    (case kc_Stays => k_is)
    (case ec_Stays => k_is)
    (case tc_Stays => k_is)
    (case hc_Stays => k_is)
    (case ha_Stays => k_is)
    (case hm_Stays => k_is)
    (case hnD => k_is)
    (case htD => k_is)
    (case s_NoFruit_NoFruit => first | rfl | k_is)
    (case s_NoFruit_NoRow => first | rfl | k_is)
    (case s_NoRow_NoRow => first | rfl | k_is)
    (case s_NoFruit_Stays => first | rfl | k_is)
    (case s_Stays_Stays => first | rfl | k_is)
    (case kt_NoFruit_LookupError => k_is)
