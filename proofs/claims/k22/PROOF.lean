import PyProof.Rows.All
import Wide.All
import OpenK.AllK
import Wide.FinOn
import HandS.ForMost
import HandS.Wide
import HandS.Style
import HandS.Flow
import HandS.Zip
import HandS.Walk
import HandS.IsInst
import HandS.TryOnly
import HandS.Exc
import HandS.MakeKwOnly
import KE.KExcInit
import HandS.ForExc
import HandS.ExcIs
import KE.KTryMore
import KE.KExcIs
import HandS.Star
import PySem.Challenge.RW_ripepicks_k22_fruits_placed_otherwise
set_option Elab.async false
set_option linter.all false
set_option maxRecDepth 100000
set_option maxHeartbeats 4000000
/-! The layer of this project: readings by name, walks of lists and tuples alike, the tape. -/
namespace Rp
open PySem PySem.Spec PyProof.Rows L2
/-! ### readings, named -/
def rLenA (K : PySem.W.Frag) : List V → Hp → VK → Prop := fun xs H Q => ∃ x n, xs = [x] ∧ LenV K x H n ∧ Q (.int n) H
def rLenQ (K : PySem.W.Frag) : List V → Hp → VK → Prop := fun xs H Q => ∃ p ys, xs = [.ref p] ∧ (SqL K H p ys ∨ SqT K H p ys) ∧ Q (.int ys.length) H
def rLenT : List V → Hp → VK → Prop := fun xs H Q => ∃ z, xs = [.str z] ∧ z.length ≤ sizeLine ∧ Q (.int z.length) H
def rListOf (K : PySem.W.Frag) : List V → Hp → VK → Prop := fun xs H Q => ∃ p ys, xs = [.ref p] ∧ (SqL K H p ys ∨ SqT K H p ys) ∧ ∀ l, H l = none → Q (.ref l) (upd H l (.lst ys))
def rTupOf (K : PySem.W.Frag) : List V → Hp → VK → Prop := fun xs H Q => ∃ p ys, xs = [.ref p] ∧ ((SqL K H p ys ∧ ∀ l, H l = none → Q (.ref l) (upd H l (.tup ys))) ∨ (SqT K H p ys ∧ Q (.ref p) H))
def rAbs : List V → Hp → VK → Prop := fun xs H Q => ∃ i, xs = [.int i] ∧ Q (.int (if i < 0 then -i else i)) H
def rInt1 : List V → Hp → VK → Prop := fun xs H Q => (∃ i, xs = [.int i] ∧ Q (.int i) H) ∨ ∃ k, xs = [.bl k] ∧ Q (.int (if k then 1 else 0)) H
def rMax2i : List V → Hp → VK → Prop := fun xs H Q => ∃ i j, xs = [.int i, .int j] ∧ Q (.int (if j > i then j else i)) H
def rMin2i : List V → Hp → VK → Prop := fun xs H Q => ∃ i j, xs = [.int i, .int j] ∧ Q (.int (if j < i then j else i)) H
def rCatStr : R2 := fun x y H Q => ∃ i j, x = .str i ∧ y = .str j ∧ i.length + j.length ≤ sizeLine ∧ Q (.str (i ++ j)) H
def rIsN : R2 := fun x y H Q => y = .non ∧ Q (.bl (decide (x = .non))) H
def rNotN : R2 := fun x y H Q => y = .non ∧ Q (.bl (!decide (x = .non))) H
def rJoin (K : PySem.W.Frag) : V → List V → Hp → VK → Prop := fun x xs H Q => ∃ a p, ∃ ys : List Str, x = .str a ∧ xs = [.ref p] ∧ (SqL K H p (ys.map V.str) ∨ SqT K H p (ys.map V.str)) ∧
      (ys.map (·.length)).sum + ys.length * a.length ≤ 16777216 ∧ Q (.str (Txt.join a ys)) H
section
variable {X : Cx}
/-! ### a list or a tuple is walked -/
def iSeq (K : PySem.W.Frag) (tl : TE) : TI := fun σ H R => iList K tl σ H R ∨ iTup K tl σ H R
theorem pi_seq {tg l : Expr} {tl : TE} (hl : PE X l tl) : PI X tg l (iSeq X.K tl) :=
  ⟨fun pins s σ H R I h => h.elim (fun h => (pi_list hl).run pins s σ H R I h) (fun h => (pi_tup hl).run pins s σ H R I h)⟩
/-- a list or a tuple is unpacked -/
def gSq (K : PySem.W.Frag) (n : Nat) (t : TGs) : TG := fun v σ H Q => gTup K n t v σ H Q ∨ gLst K n t v σ H Q
theorem pg_sq {es : List Expr} {k : Nat} {t : TGs} {n : Nat} {pos : Pos} (hc : X.calm = true) (h : PGs X es t) (hn : (assignEach es X.env).length = n := by rfl) (hst : (assignEach es X.env).findIdx? (·.1) = none := by rfl) :
    PG X (.Tuple es k pos) (gSq X.K n t) :=
  ⟨fun pins s σ H v u Q I r hw => hw.elim (fun hw => (pg_tup hc h hn hst).run pins s σ H v u Q I r hw) (fun hw => (pg_lst hc h hn hst).run pins s σ H v u Q I r hw)⟩
/-- f(k = v, ..), names alone -/
theorem pe_callK0 {CX : CXT} {k : Nat} {f : Addr} {fd : FuncData} {ps ks : List Str} {sp : Sp} {E : XK} {x : Str} {p pos : Pos} {kws : List Keyword} {tk : TA} {g : List Value → List Value → List Value} {gV : List V → List V → List V}
    (F : FnOk X.prog X.w X.K X.mg X.base CX k f fd ps sp) (hr : Room k X.A) (hg : Gl X x) (hm : X.mg x = some (.ref f)) (hk : PySem.W.keepIn X.K (.ref f) = true) (hb : KBinds X.K fd ps ks g gV) (hx : Passes CX X E)
    (hkw : PK X kws tk) (hall : (backToKw pos (keywordEach kws X.env)).all (·.1.isSome) = true := by rfl) (hks : (backToKw pos (keywordEach kws X.env)).filterMap (·.1) = ks := by rfl)
    (hdb : (x == ("__debug__" : Str)) = false := by decide) (hpl : ((backTo pos (starEach [] X.env)).any (·.1) || (backToKw pos (keywordEach kws X.env)).any (·.1.isNone)) = false := by rfl) :
    PE X (.Call (.Name x p) [] kws pos) (tCallK sp gV E tNil tk) := by
  refine ⟨fun pins s σ H Q I hq => wpAny_Call_Name_kw (ld_glob I hg hm (PySem.W.callWith_KW0 (h₀ := X.base) I.ok.mod.kin hk hall (thn (hkw.run pos pins s σ H _ I hq) fun ws s2 z => ?_) hpl) hdb)⟩
  obtain ⟨zs, H2, I2, rz, q2⟩ := z
  refine ⟨I2.kIn, ?_⟩
  rw [hks]
  exact run_fnk (us := []) (vs := []) F hr hb hx I2 .nil rz q2
end
/-- a def that may raise, called where it doesn't -/
theorem passF {X : Cx} : Passes (L2.CX X.prog X.w) X E0 := fun _ _ _ _ _ _ _ h => by
  obtain ⟨_, _, _, _, _, _, _, _, _, _, _, _, h⟩ := h
  exact h.elim
/-- a text times 0 or 1 -/
def rRepStr : R2 := fun x y H Q => ∃ z n, x = .str z ∧ y = .int n ∧ 0 ≤ n ∧ n ≤ 1 ∧ Q (.str (if n < 1 then Str.empty else z)) H
theorem op_rep_str {X : Cx} : OpR X (binaryOp .Mult) rRepStr := by
  intro pins s σ H x y v u Q I rx ry h
  obtain ⟨z, n, rfl, rfl, h0, h1, q⟩ := h
  obtain ⟨t, rfl⟩ := rx
  obtain ⟨t2, rfl⟩ := ry
  by_cases c : n < 1
  · rw [if_pos c] at q
    exact PySem.P.mul_str_none c (by omega) ⟨.str Str.empty, H, I.tok _, ⟨_, rfl⟩, q⟩
  · rw [if_neg c] at q
    have e : n = 1 := by omega
    subst e
    refine PySem.P.mul_str (by decide) (fun _ k => ?_) (fun _ k => ?_) ?_
    · simp at k
    · simp at k
    · rw [if_neg (by decide), if_pos (by simp)]
      exact ⟨.str z, H, I, ⟨_, rfl⟩, q⟩
/-! ### heaps -/
def mask (t : Addr) (H : Hp) : Hp := fun b => if b = t then none else H b
/-- all but the one at t stand -/
def Ext (t : Addr) (H H' : Hp) : Prop := ∀ b o, b ≠ t → H b = some o → H' b = some o
theorem Ext.refl (t : Addr) (H : Hp) : Ext t H H := fun _ _ _ h => h
theorem Ext.trans {t : Addr} {H H1 H2 : Hp} (a : Ext t H H1) (b : Ext t H1 H2) : Ext t H H2 := fun c o n h => b c o n (a c o n h)
theorem Ext.of {t : Addr} {H H' : Hp} (a : Same H H') : Ext t H H' := fun c o _ h => a c o h
theorem Ext.upd {t : Addr} {H : Hp} (o : HO) : Ext t H (upd H t o) := fun c u n h => by rw [upd_ne n]; exact h
theorem Ext.new {t p : Addr} {H : Hp} {o : HO} (h : H p = none) : Ext t H (L2.upd H p o) := fun c u n e => by rw [upd_ne (ne_of_none e h)]; exact e
theorem Same.new {p : Addr} {H : Hp} {o : HO} (h : H p = none) : Same H (L2.upd H p o) := fun c u e => by rw [upd_ne (ne_of_none e h)]; exact e
theorem Ext.mask {t : Addr} {H H' : Hp} (a : Ext t H H') : Same (mask t H) (mask t H') := fun c o h => by
  unfold Rp.mask at h ⊢
  by_cases e : c = t
  · rw [if_pos e] at h; cases h
  · rw [if_neg e] at h ⊢; exact a c o e h
theorem mask_same (t : Addr) (H : Hp) : Same (mask t H) H := fun c o h => by
  unfold Rp.mask at h
  by_cases e : c = t
  · rw [if_pos e] at h; cases h
  · rw [if_neg e] at h; exact h
theorem mask_ne {t c : Addr} {H : Hp} (e : c ≠ t) : mask t H c = H c := if_neg e
theorem Same.seqT {K : PySem.W.Frag} {H H' : Hp} {a : Addr} {xs : List V} (e : Same H H') (h : SqT K H a xs) : SqT K H' a xs := by
  rcases h with (h | ⟨o, h⟩) | h
  · exact .inl (.inl (e _ _ h))
  · exact .inl (.inr ⟨o, e _ _ h⟩)
  · exact .inr h
mutual
theorem Dp.same {K : PySem.W.Frag} {H H' : Hp} (e : Same H H') : ∀ {v : V} {d : PyData}, Dp K H v d → Dp K H' v d
  | _, _, .non => .non
  | _, _, .bl b => .bl b
  | _, _, .int i => .int i
  | _, _, .str x => .str x
  | _, _, .lst h a => .lst (e.seq h) (DpAll.same e a)
  | _, _, .tup h a => .tup (Same.seqT e h) (DpAll.same e a)
theorem DpAll.same {K : PySem.W.Frag} {H H' : Hp} (e : Same H H') : ∀ {vs : List V} {ds : List PyData}, DpAll K H vs ds → DpAll K H' vs ds
  | _, _, .nil => .nil
  | _, _, .cons a b => .cons (Dp.same e a) (DpAll.same e b)
end
/-- the tape stands at t, so many draws done at most -/
def TapeAt (H : Hp) (t : Addr) (n : Nat) : Prop := ∃ a b c : Int, H t = some (.lst [.int a, .int b, .int c]) ∧ 0 ≤ a ∧ 0 ≤ b ∧ b < 4611686018427387904 ∧ 0 ≤ c ∧ c ≤ n
theorem TapeAt.mono {H : Hp} {t : Addr} {n m : Nat} (h : TapeAt H t n) (l : n ≤ m) : TapeAt H t m := by
  obtain ⟨a, b, c, e, h1, h2, h3, h4, h5⟩ := h
  exact ⟨a, b, c, e, h1, h2, h3, h4, by omega⟩
theorem TapeAt.same {H H' : Hp} {t : Addr} {n : Nat} (h : TapeAt H t n) (s : Same H H') : TapeAt H' t n := by
  obtain ⟨a, b, c, e, h1⟩ := h
  exact ⟨a, b, c, s _ _ e, h1⟩
theorem TapeAt.new {H : Hp} {t p : Addr} {n : Nat} {o : HO} (h : TapeAt H t n) (e : H p = none) : TapeAt (upd H p o) t n := h.same (Same.new e)
theorem cutV_to (xs : List V) (j : Nat) : cutV xs none (some (j : Int)) = xs.take j := by
  unfold cutV
  rw [HT.sIx_none, HT.sIx_nat, List.drop_zero, Nat.sub_zero]
  by_cases h : j ≤ xs.length
  · rw [Nat.min_eq_left h]
  · rw [Nat.min_eq_right (by omega), List.take_length, List.take_of_length_le (by omega)]
theorem cutV_from (xs : List V) (i : Nat) : cutV xs (some (i : Int)) none = xs.drop i := by
  unfold cutV
  rw [HT.sIx_none, HT.sIx_nat]
  by_cases h : i ≤ xs.length
  · rw [Nat.min_eq_left h]
    exact List.take_of_length_le (by rw [List.length_drop]; omega)
  · rw [Nat.min_eq_right (by omega), List.drop_eq_nil_of_le (Nat.le_refl _), List.take_nil, List.drop_eq_nil_of_le (by omega)]
theorem cutV_mid (xs : List V) (i j : Nat) : cutV xs (some (i : Int)) (some (j : Int)) = (xs.take j).drop i := by
  unfold cutV
  rw [HT.sIx_nat, HT.sIx_nat, List.drop_take]
  by_cases h : i ≤ xs.length
  · rw [Nat.min_eq_left h]
    by_cases h2 : j ≤ xs.length
    · rw [Nat.min_eq_left h2]
    · rw [Nat.min_eq_right (by omega), List.take_of_length_le (by rw [List.length_drop]; omega), List.take_of_length_le (by rw [List.length_drop]; omega)]
  · rw [List.drop_eq_nil_of_le (show xs.length ≤ min i xs.length by omega), List.drop_eq_nil_of_le (show xs.length ≤ i by omega), List.take_nil, List.take_nil]
theorem gTup2 {K : PySem.W.Frag} {T : Addr} {x y : V} {i j : Nat} {σ : L2.St} {H : Hp} {Q : L2.St → Hp → Prop} (h : SqT K H T [x, y]) (q : Q ((σ.set i (some x)).set j (some y)) H) :
    gTup K 2 (gCons (gName i) (gCons (gName j) gNil)) (.ref T) σ H Q := ⟨T, [x, y], rfl, h, rfl, x, [y], rfl, y, [], rfl, rfl, q⟩
theorem atI_ok {α : Type} {xs : List α} {i : Int} {k : Nat} (e : i = (k : Int)) (h : k < xs.length) : atI xs i = some xs[k] := by
  subst e
  exact atI_nat (List.getElem?_eq_getElem h)
theorem ixN_ok {n k : Nat} {i : Int} (e : i = (k : Int)) (h : k < n) : ixN n i = some k := by
  subst e
  unfold ixN
  rw [if_pos (by omega), if_pos (by omega)]
  simp
theorem ixL {K : PySem.W.Frag} {H : Hp} {a : Addr} {xs : List V} {i : Int} {v : V} {Q : VK} (h : SqL K H a xs) (e : atI xs i = some v) (q : Q v H) : rIxL K (.ref a) (.int i) H Q := ⟨a, xs, i, v, rfl, rfl, h, e, q⟩
theorem ixLH {K : PySem.W.Frag} {H : Hp} {a : Addr} {xs : List V} {i : Int} {v : V} {Q : VK} (h : H a = some (.lst xs)) (e : atI xs i = some v) (q : Q v H) : rIxL K (.ref a) (.int i) H Q := ⟨a, xs, i, v, rfl, rfl, .inl (.inl h), e, q⟩
/-! ### walks, by an invariant -/
def LcK (J : It) (g : TG) (tt : TT) (te : TE) (vs : List Nat) (σ : L2.St) (H1 : Hp) (Q : VK) : Prop := ∀ D, H1 D = none → ∃ W : Nat → Nat → Hp → Prop, (∃ m, W 0 m (upd H1 D (.lst []))) ∧ ∀ i m H, W i m H →
  (J.stop i H ∧ Q (.ref D) H) ∨ (J.go i H ∧ ∃ Nx : Hp → Prop, (∀ H', Nx H' → ∃ m', m' < m ∧ W (i + 1) m' H') ∧ ∀ x H', J.yld i H x H' → g x (wipe σ vs) H' fun σ2 H2 => wipe σ2 vs = wipe σ vs ∧ tt σ2 H2 fun b H3 =>
    if b = true then te σ2 H3 fun y H4 => ∃ acc, H4 D = some (.lst acc) ∧ acc.length < sizeLine ∧ Nx (upd H4 D (.lst (acc ++ [y]))) else Nx H3)
theorem tLc_eq {wi : TI} {g : TG} {tt : TT} {te : TE} {vs : List Nat} {σ : L2.St} {H : Hp} {Q : VK} : tLc wi g tt te vs σ H Q = wi σ H (fun J H1 => LcK J g tt te vs σ H1 Q) := rfl
theorem lcK {J : It} {n : Nat} {G : Hp → Prop} {Y : Nat → Hp → V → Hp → Prop} (w : Walk J n G Y) {g : TG} {tt : TT} {te : TE} {vs : List Nat} {σ : L2.St} {H1 : Hp} {Q : VK} (Pv : Addr → Nat → Hp → Prop) (h0 : ∀ D, H1 D = none → Pv D 0 (upd H1 D (.lst []))) (hG : ∀ D i H, i ≤ n → Pv D i H → G H)
    (hs : ∀ D i x H H', H1 D = none → i < n → Pv D i H → Y i H x H' → g x (wipe σ vs) H' fun σ2 H2 => wipe σ2 vs = wipe σ vs ∧ tt σ2 H2 fun b H3 =>
      if b = true then te σ2 H3 fun y H4 => ∃ acc, H4 D = some (.lst acc) ∧ acc.length < sizeLine ∧ Pv D (i + 1) (upd H4 D (.lst (acc ++ [y]))) else Pv D (i + 1) H3) (hd : ∀ D H, H1 D = none → Pv D n H → Q (.ref D) H) : LcK J g tt te vs σ H1 Q :=
  fun D nD => lc_it w (Pv D) (h0 D nD) (hG D) (fun i x H H' => hs D i x H H' nD) (fun H => hd D H nD)
def FrK (J : It) (g : TG) (tb : TS) (D : Ends) (σ : L2.St) (H1 : Hp) : Prop := ∃ W : Nat → Nat → L2.St → Hp → Prop, (∃ m, W 0 m σ H1) ∧ ∀ i m σ H, W i m σ H →
  (J.stop i H ∧ D.nx σ H) ∨ (J.go i H ∧ ∃ N : L2.St → Hp → Prop, (∀ σ' H', N σ' H' → ∃ m', m' < m ∧ W (i + 1) m' σ' H') ∧ ∀ x H', J.yld i H x H' → g x σ H' fun σ2 H2 => tb { D with nx := N, ct := N, bk := D.nx } σ2 H2)
theorem tFor_eq {wi : TI} {g : TG} {tb : TS} {D : Ends} {σ : L2.St} {H : Hp} : tFor wi g tb D σ H = wi σ H (fun J H1 => FrK J g tb D σ H1) := rfl
theorem frK {J : It} {n : Nat} {G : Hp → Prop} {Y : Nat → Hp → V → Hp → Prop} (w : Walk J n G Y) {g : TG} {tb : TS} {D : Ends} {σ : L2.St} {H : Hp} (Pv : Nat → L2.St → Hp → Prop) (h0 : Pv 0 σ H) (hG : ∀ i σ H, i ≤ n → Pv i σ H → G H)
    (hs : ∀ i x σ H H', i < n → Pv i σ H → Y i H x H' → g x σ H' fun σ2 H2 => tb { D with nx := Pv (i + 1), ct := Pv (i + 1), bk := D.nx } σ2 H2) (hd : ∀ σ H, Pv n σ H → D.nx σ H) : FrK J g tb D σ H := for_it w Pv h0 hG hs hd
end Rp

namespace Rp
open PySem PySem.Spec PyProof.Rows L2 TL
/-! ### the names' mathematics -/
def nmIdx (w k : Nat) : Nat := if w = 0 then k else if w = 1 then k / 2 else k
def nmTail (w : Nat) (tail : List Nat) (k : Nat) : List Nat := if w = 0 then tail else if w = 1 then (if k % 2 = 0 then [] else tail) else tail.take (k % (tail.length + 1))
def nm (sh st w : Nat) (head tail : List Nat) (k : Nat) : List Nat := head ++ (97 + (sh + st * nmIdx w k) % 26) :: nmTail w tail k
theorem nmIdx_lt {w k : Nat} (h : k < 26) : nmIdx w k < 26 := by unfold nmIdx; split <;> (try split) <;> omega
theorem nm_inj {sh st w : Nat} {head tail : List Nat} (hst : st = 1 ∨ st = 7 ∨ st = 25) (hw : w ≠ 0 → tail ≠ []) {i j : Nat} (hi : i < 26) (hj : j < 26) (e : nm sh st w head tail i = nm sh st w head tail j) : i = j := by
  unfold nm at e
  have e1 := List.append_cancel_left e
  obtain ⟨e2, e3⟩ := List.cons.inj e1
  have li := nmIdx_lt (w := w) hi
  have lj := nmIdx_lt (w := w) hj
  have e4 : nmIdx w i = nmIdx w j := by
    rcases hst with rfl | rfl | rfl <;> omega
  unfold nmIdx at e4
  by_cases h0 : w = 0
  · rw [if_pos h0, if_pos h0] at e4; exact e4
  · rw [if_neg h0, if_neg h0] at e4
    by_cases h1 : w = 1
    · rw [if_pos h1, if_pos h1] at e4
      unfold nmTail at e3
      rw [if_neg h0, if_neg h0, if_pos h1, if_pos h1] at e3
      have ht := hw h0
      by_cases ci : i % 2 = 0
      · by_cases cj : j % 2 = 0
        · omega
        · rw [if_pos ci, if_neg cj] at e3
          exact absurd e3.symm ht
      · by_cases cj : j % 2 = 0
        · rw [if_neg ci, if_pos cj] at e3
          exact absurd e3 ht
        · omega
    · rw [if_neg h1, if_neg h1] at e4; exact e4
theorem nmTail_sub {w k : Nat} {tail : List Nat} : ∀ c ∈ nmTail w tail k, c ∈ tail := by
  intro c h
  unfold nmTail at h
  split at h
  · exact h
  · split at h
    · split at h
      · cases h
      · exact h
    · exact List.mem_of_mem_take h
theorem nmTail_len {w k : Nat} {tail : List Nat} : (nmTail w tail k).length ≤ tail.length := by
  unfold nmTail
  split
  · exact Nat.le_refl _
  · split
    · split
      · exact Nat.zero_le _
      · exact Nat.le_refl _
    · rw [List.length_take]; omega
/-! ### texts by their codes -/
def tx (l : List Nat) : Str := ⟨l.toArray⟩
theorem tx_inj {a b : List Nat} (h : tx a = tx b) : a = b := by
  have : a.toArray = b.toArray := congrArg Str.cps h
  simpa using this
theorem tx_len (l : List Nat) : (tx l).length = l.length := rfl
theorem tx_cps (l : List Nat) : (tx l).cps.toList = l := rfl
theorem tx_app (a b : List Nat) : tx a ++ tx b = tx (a ++ b) := by
  show (⟨a.toArray ++ b.toArray⟩ : Str) = ⟨(a ++ b).toArray⟩
  simp
theorem tx_empty : Str.ofString "" = tx [] := rfl
theorem tx_emp : Str.empty = tx [] := rfl
theorem cutS_to (l : List Nat) (j : Nat) : cutS (tx l) none (some (j : Int)) = tx (l.take j) := by
  unfold cutS
  rw [HT.sIx_none, HT.sIx_nat, tx_len, tx_cps, List.drop_zero, Nat.sub_zero]
  by_cases h : j ≤ l.length
  · rw [Nat.min_eq_left h]; rfl
  · rw [Nat.min_eq_right (by omega), List.take_length, List.take_of_length_le (by omega)]; rfl
theorem cutS_from (l : List Nat) (i : Nat) : cutS (tx l) (some (i : Int)) none = tx (l.drop i) := by
  unfold cutS
  rw [HT.sIx_none, HT.sIx_nat, tx_len, tx_cps]
  by_cases h : i ≤ l.length
  · rw [Nat.min_eq_left h, List.take_of_length_le (by rw [List.length_drop]; omega)]; rfl
  · rw [Nat.min_eq_right (by omega), List.drop_eq_nil_of_le (Nat.le_refl _), List.take_nil, List.drop_eq_nil_of_le (by omega)]; rfl
theorem joinL_nil : ∀ ps : List (List Nat), joinL [] ps = ps.flatten
  | [] => rfl
  | [p] => by simp [joinL]
  | p :: q :: r => by
    show p ++ ([] ++ joinL [] (q :: r)) = _
    rw [joinL_nil (q :: r)]
    simp
theorem join_signs (cs : List Nat) : Txt.join (Str.ofString "") (cs.map fun c => tx [c]) = tx cs := by
  have e : ∀ a b : Str, tl a = tl b → a = b := fun a b h => by
    cases a; cases b
    simp [tl] at h
    simpa using h
  apply e
  rw [join_eq, tl_join]
  show joinL [] _ = cs
  rw [joinL_nil]
  induction cs with
  | nil => rfl
  | cons c r ih => simpa [tl, tx] using ih
theorem letters_at {r : Int} (h0 : 0 ≤ r) (h1 : r < 26) : atI (Str.ofString "abcdefghijklmnopqrstuvwxyz").cps.toList r = some (97 + r.toNat) := by
  have e : (Str.ofString "abcdefghijklmnopqrstuvwxyz").cps.toList = (List.range 26).map (97 + ·) := by decide +kernel
  rw [e]
  have : r = ((r.toNat : Nat) : Int) := by omega
  rw [atI_ok this (by simp; omega)]
  simp
theorem letters_len : (Str.ofString "abcdefghijklmnopqrstuvwxyz").length = 26 := by decide +kernel
theorem atI3 {α : Type} {x y z : α} {i : Int} {w : Nat} (e : i = (w : Int)) (h : w < 3) : atI [x, y, z] i = some (if w = 0 then x else if w = 1 then y else z) := by
  subst e
  match w, h with
  | 0, _ => rfl
  | 1, _ => rfl
  | 2, _ => rfl
theorem idxV (w i : Nat) : (if w = 0 then V.int (i : Int) else if w = 1 then V.int ((i : Int) / 2) else V.int (i : Int)) = V.int ((nmIdx w i : Nat) : Int) := by
  unfold nmIdx
  split
  · rfl
  · split
    · rw [show ((i / 2 : Nat) : Int) = (i : Int) / 2 by omega]
    · rfl
theorem tailV (w i : Nat) (tail : List Nat) : (if w = 0 then V.str (tx tail) else if w = 1 then V.str (if (i : Int) % 2 < 1 then Str.empty else tx tail) else V.str (tx (tail.take (i % (tail.length + 1))))) = V.str (tx (nmTail w tail i)) := by
  unfold nmTail
  split
  · rfl
  · split
    · by_cases c : i % 2 = 0
      · rw [if_pos (by omega), if_pos c]; rfl
      · rw [if_neg (by omega), if_neg c]
    · rfl
theorem nodup_map {α β : Type} {f : α → β} {l : List α} (h : l.Nodup) (inj : ∀ x ∈ l, ∀ y ∈ l, f x = f y → x = y) : (l.map f).Nodup := by
  unfold List.Nodup at h ⊢
  rw [List.pairwise_map]
  exact h.imp_of_mem (fun {x y} hx hy ne e => ne (inj x hx y hy e))
theorem erase_perm {α : Type} : ∀ (l : List α) (i : Nat) (h : i < l.length), (l[i] :: l.eraseIdx i).Perm l
  | x :: r, 0, _ => .refl _
  | x :: r, i + 1, h => by
    have ih := erase_perm r i (Nat.lt_of_succ_lt_succ h)
    show ((r[i]'(Nat.lt_of_succ_lt_succ h)) :: x :: r.eraseIdx i).Perm (x :: r)
    exact (List.Perm.swap _ _ _).trans (ih.cons x)
def unV : V → Option Str
  | .str z => some z
  | _ => none
theorem unV_map (zs : List Str) : (zs.map V.str).filterMap unV = zs := by
  induction zs with
  | nil => rfl
  | cons z r ih => simpa [unV] using ih
theorem strs_of_mem : ∀ (ys : List V), (∀ y ∈ ys, ∃ z, y = V.str z) → ys = (ys.filterMap unV).map V.str
  | [], _ => rfl
  | y :: r, h => by
    obtain ⟨z, rfl⟩ := h y List.mem_cons_self
    have ih := strs_of_mem r fun x hx => h x (List.mem_cons_of_mem _ hx)
    simp [unV]
    exact ih
theorem perm_strs {ys : List V} {zs : List Str} (h : ys.Perm (zs.map V.str)) : ∃ ls : List Str, ys = ls.map V.str ∧ ls.Perm zs := by
  refine ⟨ys.filterMap unV, strs_of_mem ys fun y hy => ?_, ?_⟩
  · obtain ⟨z, _, e⟩ := List.mem_map.mp (h.mem_iff.mp hy)
    exact ⟨z, e.symm⟩
  · have := h.filterMap unV
    rw [unV_map] at this
    exact this
theorem nodup_perm {α : Type} {l m : List α} (h : l.Perm m) (n : m.Nodup) : l.Nodup := h.nodup_iff.mpr n
theorem strs_at {zs : List Str} {i : Nat} {x : V} (h : (zs.map V.str)[i]? = some x) : ∃ z, zs[i]? = some z ∧ x = V.str z := by
  rw [List.getElem?_map] at h
  obtain ⟨z, h1, h2⟩ := Option.map_eq_some_iff.mp h
  exact ⟨z, h1, h2.symm⟩
/-- the fruit moved to this place -/
def oth (zs : List Str) (f : Str) : List Str := zs.filter fun z => !decide (z = f)
def plc (zs : List Str) (f : Str) (p : Nat) : List Str := (oth zs f).take p ++ f :: (oth zs f).drop p
theorem oth_step {ls : List Str} {i : Nat} {z f : Str} (h : ls[i]? = some z) : oth (ls.take (i + 1)) f = if z = f then oth (ls.take i) f else oth (ls.take i) f ++ [z] := by
  rw [List.take_add_one, h]
  unfold oth
  rw [List.filter_append]
  by_cases c : z = f
  · rw [if_pos c]; simp [c]
  · rw [if_neg c]; simp [c]
theorem oth_le (ls : List Str) (f : Str) : (oth ls f).length ≤ ls.length := List.length_filter_le _ _
def IsName (z : Str) : Prop := 1 ≤ z.length ∧ z.length ≤ 8 ∧ ∀ c ∈ z.cps.toList, 97 ≤ c ∧ c ≤ 122
end Rp
namespace Rp
open PySem PySem.Spec PyProof.Rows L2 RZ
/-! ### kinds of data -/
def tyN : PyData → String
  | .none => "NoneType" | .bool _ => "bool" | .int _ => "int" | .str _ => "str" | .list _ => "list" | .tuple _ => "tuple" | .dict _ => "dict"
theorem tyL {K : PySem.W.Frag} {H : Hp} {a : Addr} {xs : List V} (h : SqL K H a xs) : TyX K H (.ref a) (.type "list") := by
  rcases h with (h | ⟨o, h⟩) | ⟨o, its, n, h, h2, _⟩
  · exact .base (.lst h)
  · exact .base (.frz h)
  · exact .kList h h2
theorem tyT {K : PySem.W.Frag} {H : Hp} {a : Addr} {xs : List V} (h : SqT K H a xs) : TyX K H (.ref a) (.type "tuple") := by
  rcases h with (h | ⟨o, h⟩) | ⟨o, its, n, h, h2, _⟩
  · exact .base (.tup h)
  · exact .fTuple h
  · exact .kTuple h h2
theorem Dp.ty {K : PySem.W.Frag} {H : Hp} {x : V} {d : PyData} (h : Dp K H x d) : TyX K H x (.type (tyN d)) := by
  cases h with
  | non => exact .base .non
  | bl b => exact .base (.bl b)
  | int i => exact .base (.int i)
  | str z => exact .base (.str z)
  | lst h _ => exact tyL h
  | tup h _ => exact tyT h
theorem isi1 {K : PySem.W.Frag} {H : Hp} {x : V} {d : PyData} {c : String} {b : Bool} {Q : VK} (h : Dp K H x d) (e : kitB (tyN d) c = some b) (q : Q (.bl b) H) : rIsi K [x, .ty c] H Q :=
  ⟨x, .ty c, _, .type c, b, rfl, .ty c, Dp.ty h, kit_ty e, q⟩
theorem isi2 {K : PySem.W.Frag} {H : Hp} {x : V} {d : PyData} {c1 c2 : String} {b1 b2 : Bool} {T : Addr} {Q : VK} (hT : H T = some (.tup [.ty c1, .ty c2])) (h : Dp K H x d) (e1 : kitB (tyN d) c1 = some b1) (e2 : kitB (tyN d) c2 = some b2) (q : Q (.bl (b1 || b2)) H) : rIsiT K [x, .ref T] H Q := by
  refine ⟨x, T, [.ty c1, .ty c2], _, [.type c1, .type c2], b1 || b2, rfl, hT, .cons (.ty c1) (.cons (.ty c2) .nil), Dp.ty h, ?_, q⟩
  cases b1 with
  | true => exact kitAny_cons (b := true) (kit_ty e1) (fun z => nomatch z) (fun _ => rfl)
  | false =>
    refine kitAny_cons (b := false) (kit_ty e1) (fun _ => ?_) (fun z => nomatch z)
    cases b2 with
    | true => exact kitAny_cons (b := true) (kit_ty e2) (fun z => nomatch z) (fun _ => rfl)
    | false => exact kitAny_cons (b := false) (kit_ty e2) (fun _ => rfl) (fun z => nomatch z)
theorem kb_NoneType_list : kitB "NoneType" "list" = some false := by decide +kernel
theorem kb_NoneType_tuple : kitB "NoneType" "tuple" = some false := by decide +kernel
theorem kb_NoneType_str : kitB "NoneType" "str" = some false := by decide +kernel
theorem kb_NoneType_bool : kitB "NoneType" "bool" = some false := by decide +kernel
theorem kb_NoneType_int : kitB "NoneType" "int" = some false := by decide +kernel
theorem kb_bool_list : kitB "bool" "list" = some false := by decide +kernel
theorem kb_bool_tuple : kitB "bool" "tuple" = some false := by decide +kernel
theorem kb_bool_str : kitB "bool" "str" = some false := by decide +kernel
theorem kb_bool_bool : kitB "bool" "bool" = some true := by decide +kernel
theorem kb_bool_int : kitB "bool" "int" = some true := by decide +kernel
theorem kb_int_list : kitB "int" "list" = some false := by decide +kernel
theorem kb_int_tuple : kitB "int" "tuple" = some false := by decide +kernel
theorem kb_int_str : kitB "int" "str" = some false := by decide +kernel
theorem kb_int_bool : kitB "int" "bool" = some false := by decide +kernel
theorem kb_int_int : kitB "int" "int" = some true := by decide +kernel
theorem kb_str_list : kitB "str" "list" = some false := by decide +kernel
theorem kb_str_tuple : kitB "str" "tuple" = some false := by decide +kernel
theorem kb_str_str : kitB "str" "str" = some true := by decide +kernel
theorem kb_str_bool : kitB "str" "bool" = some false := by decide +kernel
theorem kb_str_int : kitB "str" "int" = some false := by decide +kernel
theorem kb_list_list : kitB "list" "list" = some true := by decide +kernel
theorem kb_list_tuple : kitB "list" "tuple" = some false := by decide +kernel
theorem kb_list_str : kitB "list" "str" = some false := by decide +kernel
theorem kb_list_bool : kitB "list" "bool" = some false := by decide +kernel
theorem kb_list_int : kitB "list" "int" = some false := by decide +kernel
theorem kb_tuple_list : kitB "tuple" "list" = some false := by decide +kernel
theorem kb_tuple_tuple : kitB "tuple" "tuple" = some true := by decide +kernel
theorem kb_tuple_str : kitB "tuple" "str" = some false := by decide +kernel
theorem kb_tuple_bool : kitB "tuple" "bool" = some false := by decide +kernel
theorem kb_tuple_int : kitB "tuple" "int" = some false := by decide +kernel
theorem kb_dict_list : kitB "dict" "list" = some false := by decide +kernel
theorem kb_dict_tuple : kitB "dict" "tuple" = some false := by decide +kernel
def isLst : PyData → Bool
  | .list _ => true
  | _ => false
def isTpl : PyData → Bool
  | .tuple _ => true
  | _ => false
theorem kb_lst (d : PyData) : kitB (tyN d) "list" = some (isLst d) := by
  cases d with
  | none => exact kb_NoneType_list
  | bool _ => exact kb_bool_list
  | int _ => exact kb_int_list
  | str _ => exact kb_str_list
  | list _ => exact kb_list_list
  | tuple _ => exact kb_tuple_list
  | dict _ => exact kb_dict_list
theorem kb_tpl (d : PyData) : kitB (tyN d) "tuple" = some (isTpl d) := by
  cases d with
  | none => exact kb_NoneType_tuple
  | bool _ => exact kb_bool_tuple
  | int _ => exact kb_int_tuple
  | str _ => exact kb_str_tuple
  | list _ => exact kb_list_tuple
  | tuple _ => exact kb_tuple_tuple
  | dict _ => exact kb_dict_tuple
/-- data of this depth at most, no dicts, lists of a thousand at most -/
def Deep : Nat → PyData → Prop
  | _, .none => True
  | _, .bool _ => True
  | _, .int _ => True
  | _, .str _ => True
  | n + 1, .list ds => ds.length ≤ 1000 ∧ ∀ d ∈ ds, Deep n d
  | n + 1, .tuple ds => ds.length ≤ 1000 ∧ ∀ d ∈ ds, Deep n d
  | _, _ => False
theorem DpAll.len {K : PySem.W.Frag} {H : Hp} : ∀ {vs : List V} {ds : List PyData}, DpAll K H vs ds → vs.length = ds.length
  | _, _, .nil => rfl
  | _, _, .cons _ b => by rw [List.length_cons, List.length_cons, DpAll.len b]
theorem DpAll.at {K : PySem.W.Frag} {H : Hp} : ∀ {vs : List V} {ds : List PyData} {i : Nat} {v : V}, DpAll K H vs ds → vs[i]? = some v → ∃ d, ds[i]? = some d ∧ Dp K H v d
  | _, _, 0, _, .cons a _, e => by simp at e; subst e; exact ⟨_, rfl, a⟩
  | _, _, i + 1, _, .cons _ b, e => by
    obtain ⟨d, h1, h2⟩ := DpAll.at (i := i) b (by simpa using e)
    exact ⟨d, by simpa using h1, h2⟩
theorem walk_zipT {K : PySem.W.Frag} {a b : Addr} {xs ys : List V} {n : Nat} (hn : n = min xs.length ys.length) : Walk (ItzT K a b) n (fun H => SqT K H a xs ∧ SqT K H b ys) (YPair (fun i => xs[i]?) (fun i => ys[i]?)) := by
  subst hn
  refine ⟨fun i _ hi q => ⟨xs, ys, xs[i]'(by omega), ys[i]'(by omega), q.1, q.2, List.getElem?_eq_getElem _, List.getElem?_eq_getElem _⟩, fun _ q => ⟨xs, ys, q.1, q.2, by omega⟩, fun i H v H' _ q y => ?_⟩
  obtain ⟨T, x, z, h1, h2, h3, h4, h5⟩ := y
  exact ⟨T, x, z, h1, h2, h3, h4 xs q.1, h5 ys q.2⟩
/-- a list of texts as data -/
theorem dp_strs {K : PySem.W.Frag} {H : Hp} : ∀ zs : List Str, DpAll K H (zs.map V.str) (zs.map PyData.str)
  | [] => .nil
  | z :: r => .cons (.str z) (dp_strs r)
theorem deep_strs (n : Nat) (zs : List Str) : ∀ d ∈ zs.map PyData.str, Deep n d := by
  intro d h
  obtain ⟨z, _, rfl⟩ := List.mem_map.mp h
  unfold Deep; trivial
theorem oth_none {ls : List Str} {z : Str} (h : z ∉ ls) : oth ls z = ls := by
  unfold oth
  refine List.filter_eq_self.mpr fun x hx => ?_
  have : x ≠ z := fun e => h (e ▸ hx)
  simp [this]
theorem plc_last {init : List Str} {z : Str} (h : (init ++ [z]).Nodup) : plc (init ++ [z]) z init.length = init ++ [z] := by
  have hn : z ∉ init := fun hz => by
    rw [List.nodup_append] at h
    exact h.2.2 z hz z (by simp) rfl
  have e : oth (init ++ [z]) z = init := by
    have := oth_none hn
    unfold oth at this ⊢
    rw [List.filter_append, this]
    simp
  unfold plc
  rw [e, List.take_length, List.drop_length]
theorem not_name_0 : ¬ IsName (Str.ofString "") := fun h => absurd h.1 (by decide +kernel)
theorem not_name_A : ¬ IsName (Str.ofString "A") := fun h => by
  have := h.2.2 65 (by decide +kernel)
  omega
theorem not_name_n : ¬ IsName (Str.ofString "no such") := fun h => by
  have := h.2.2 32 (by decide +kernel)
  omega
def odds : List Str := [Str.ofString "", Str.ofString "A", Str.ofString "no such"]
theorem odds_no : ∀ o ∈ odds, ¬ IsName o := by
  intro o h
  simp [odds] at h
  rcases h with rfl | rfl | rfl
  · exact not_name_0
  · exact not_name_A
  · exact not_name_n
theorem walk_any {K : PySem.W.Frag} {i : Nat} {σ : L2.St} {H : Hp} {a : Addr} {xs : List V} {R : It → Hp → Prop} (hv : σ[i]? = some (some (.ref a))) (hS : SqL K H a xs ∨ SqT K H a xs)
    (h : ∀ J, Walk J xs.length (fun H' => Same H H') (YAt xs) → R J H) : iSeq K (tVar i) σ H R := by
  rcases hS with hS | hS
  · exact .inl ⟨.ref a, hv, a, rfl, ⟨_, hS⟩, h _ (walk_list.mono (fun H' s => s.seq hS) (fun _ _ _ _ _ _ y => y))⟩
  · exact .inr ⟨.ref a, hv, a, rfl, ⟨_, hS⟩, h _ (walk_tup.mono (fun H' s => Same.seqT s hS) (fun _ _ _ _ _ _ y => y))⟩
theorem flat_strs (zs : List Str) : (zs.map V.str).all flatV = true := by
  induction zs with
  | nil => rfl
  | cons z r ih => simpa [flatV] using ih
theorem inV_strs (f : Str) (zs : List Str) : inV (.str f) (zs.map V.str) = decide (f ∈ zs) := by
  induction zs with
  | nil => simp [inV]
  | cons z r ih =>
    unfold inV at ih ⊢
    rw [List.map_cons, List.any_cons, ih]
    by_cases c : f = z
    · subst c; simp [eqV]
    · have c' : z ≠ f := fun e => c e.symm
      simp [eqV, c, c']
end Rp

/-! Own errors with the one field what, whatever built-in class they stand under. -/
namespace PySem
namespace WhatX
open PySem.W PySem.Calls PyProof.Rows PySem.HandSPX Builtin Builtin.ObjectAttr
def iA (p1 p2 : Pos) : Arguments := { posonlyargs := [], args := [{ arg := "self", annotation := none, pos := p1 }, { arg := "what", annotation := none, pos := p2 }], vararg := none, kwonlyargs := [], kw_defaults := [], kwarg := none, defaults := [] }
def iB (q1 q2 q3 q4 : Pos) : List Stmt := [.Assign [.Attribute (.Name "self" q1) "what" q2] (.Name "what" q3) q4]
def iS : Scope := { kind := .function, names := [(PySem.Str.ofString "self", .local), (PySem.Str.ofString "what", .local)], isGenerator := false, isCoroutine := false, more := [] }
/-- what is asked of the built-in class's own chain -/
structure Under (B newId initId : String) (bm : List Value) : Prop where
  facts : ExcBaseFacts B newId initId bm
  pass : ∀ self, refuseLoop self "__setattr__" bm = pure ()
  obj : bm.contains (.type "object") = true
theorem under_LookupError : Under "LookupError" "LookupError.__new__" "LookupError.__init__" [.type "LookupError", .type "Exception", .type "BaseException", .type "object"] :=
  ⟨PySem.F.excBase_LookupError, fun self => PySem.F.store_LookupError.passes self, by decide +kernel⟩
theorem under_ValueError : Under "ValueError" "ValueError.__new__" "ValueError.__init__" [.type "ValueError", .type "Exception", .type "BaseException", .type "object"] :=
  ⟨PySem.F.excBase_ValueError, fun self => PySem.F.store_ValueError.passes self, by decide +kernel⟩
theorem under_RuntimeError : Under "RuntimeError" "RuntimeError.__new__" "RuntimeError.__init__" [.type "RuntimeError", .type "Exception", .type "BaseException", .type "object"] :=
  ⟨PySem.F.excBase_RuntimeError, fun self => PySem.F.store_RuntimeError.passes self, by decide +kernel⟩
theorem under_TypeError : Under "TypeError" "TypeError.__new__" "TypeError.__init__" [.type "TypeError", .type "Exception", .type "BaseException", .type "object"] :=
  ⟨PySem.F.excBase_TypeError, fun self => PySem.F.store_TypeError.passes self, by decide +kernel⟩
/-- what the written part says of such a class, x at C, its __init__ at fI -/
structure WhatTxt (K : Frag) (mg : Str → Option Value) (x : Str) (C fI : Addr) : Prop where
  gC : mg x = some (.ref C)
  cls : ∃ B newId initId nm q N bs bm sn sub ab col dd k0 k1 k2 k3 k5, Under B newId initId bm ∧ K.lookup C = some (excClassObj nm q C N bs bm true sn sub ab col dd k0 k1 k2 k3 k5 newId)
  sa : findIn K (.ref C) "__setattr__" = some (some (.builtin "object.__setattr__"))
  ga : findIn K (.ref C) "__getattribute__" = some (some (.builtin "BaseException.__getattribute__"))
  gg : findIn K (.ref C) "__getattr__" = some none
  noN : findIn K (.ref C) "what" = some none
  iC : findIn K (.ref C) "__init__" = some (some (.ref fI))
  tC : typeIn K (.ref fI) = some (.type "function")
  kC : keepIn K (.ref C) = true
  exC : subIn K (.ref C) (.type "BaseException") = some true
  tyC : typeIn K (.ref C) = some (.type "type")
  hdC : hasDictIn K C = true
  fn : ∃ (qual : Str) (oc : Value) (od : Option Addr) (doc pm : Value) (an : Option Addr) (cdv ct : Value) (osl : Array (Option Value)) (p1 p2 q1 q2 q3 q4 : Pos),
    K.lookup fI = some ⟨oc, od, .func (fnOf "__init__" qual (iA p1 p2) (iB q1 q2 q3 q4) iS .none .none doc pm an cdv ct), osl⟩ ∧ codeIn K cdv qual = true
/-- self.what = v on a fresh error, by object's own store -/
theorem osaW {prog : Program} {w : World} {A : Around} {hp : Heap} {g : Array GenState} {d : Drawn} {t : Nat} {os : OsState} {R : Result → Shared → Prop} {K : Frag} {fld : Str} {tk : Tok} {val : Value} {e C : Addr} {fv : Array Value} {cdt : ClassData}
    (XK : K.In hp) (at_e : hp.get? e = some { cls := .ref C, data := .fields fv }) (hcd : clsIn K C = some cdt) (chain : ∃ bm, cdt.mro = .ref C :: bm ∧ (∀ self, refuseLoop self "__setattr__" bm = pure ()) ∧ bm.contains (.type "object") = true)
    (hasd : cdt.hasDict = true) (none_there : findIn K (.ref C) fld = some none)
    (fin : ∀ h' tk' dx, (∀ b o, b ≠ e → hp.get? b = some o → h'.get? b = some o) → hp.objs.size ≤ dx → dx ≠ e → h'.get? e = some { cls := .ref C, dict := some dx, data := .fields fv } →
      h'.Ns1 dx (fun y => if y = fld then some val else none) → R (.ok (.ret .none)) ⟨h', g, d, tk', os⟩) :
    codeAny (model prog w) A (.call (.builtin "object.__setattr__") ⟨[.ref e, .str fld tk, val], []⟩) R ⟨hp, g, d, t, os⟩ := by
  obtain ⟨bm, em, hpass, hobj⟩ := chain
  have inst : InstAt hp e { cls := .ref C, data := .fields fv } C none := ⟨at_e, rfl, rfl, trivial⟩
  have st := F.store_object
  have nonempty : cdt.mro.isEmpty = false := by rw [em]; rfl
  have obj_in : cdt.mro.contains (.type "object") = true := by rw [em, List.contains_cons, hobj]; simp
  have away : e ≠ hp.objs.size := Nat.ne_of_lt (Heap.lt_size at_e)
  have is_obj : Looks (model prog w) hp (isInstance (.ref e) (.type "object")) true :=
    inst.type.andThen (looks_mroIn XK (by unfold mroIn; rw [hcd, Option.bind_some, if_neg (by rw [nonempty]; decide), obj_in]))
  have by_mro : Looks (model prog w) hp (mroOf (.ref C)) cdt.mro := (looks_clsIn XK hcd).andThen .now
  have no_taker : Looks (model prog w) hp (storeTaker? none) none := .now
  have by_cls : Looks (model prog w) hp (classData C) cdt := looks_clsIn XK hcd
  refine codeAny_call_builtin st.slot.plain st.entry (@check_slot (model prog w) _ _ ⟨hp, g, d, t, os⟩ "object.__setattr__" "object" "__setattr__" (.ref e) [.str fld tk, val] [] _ st.kind st.split is_obj (st.args (.ref e) (.str fld tk) val) ?_)
  rw [osa_eq, refuse_eq]
  refine wpAny_bind (wpAny_bind (inst.type.at (wpAny_bind (by_mro.at ?_))))
  rw [em, refuseLoop_ref, hpass]
  refine wpAny_pure (wpAny_bind (inst.type.at (wpAny_bind ((looks_findIn XK none_there).at (wpAny_bind (no_taker.at ?_))))))
  show wpAny _ _ (storeInOwnDict (.ref e) (.ref C) (.str fld tk) fld val false) _ _ _
  obtain ⟨nm, bs, mro, ns, qn, hd, sn, sb, ab, col, del⟩ := cdt
  dsimp only at hasd
  subst hasd
  unfold storeInOwnDict ownDictForStores
  repeat (first | with_reducible refine store_in_new ?_ ?_ | with_reducible refine wpAny_loadPart_at at_e ?_ | with_reducible refine by_cls.at ?_ | wp_step)
  · exact ⟨_, #[], _, (Heap.get?_update_ne _ _ _ _ away.symm).trans (Heap.get?_push_at rfl rfl), rfl, fun q hq => absurd hq (by simp), fun _ => rfl⟩
  · intro h' tk' new_ns same
    have still : (hp.push { cls := .type "dict", data := .dict #[] }).get? e = some { cls := .ref C, data := .fields fv } := Heap.get?_push_of_some _ at_e
    refine fin h' tk' hp.objs.size (fun b o hb ho => ?_) (Nat.le_refl _) away.symm ?_ new_ns
    · exact (same.2 b (Nat.ne_of_lt (Heap.lt_size ho))).trans ((Heap.get?_update_ne _ _ _ _ hb).trans (Heap.get?_push_of_some _ ho))
    · exact (same.2 e away).trans (Heap.get?_update_self _ still rfl)
/-- what __init__ leaves of a fresh error at e -/
structure Inited (h h' : Heap) (e C dx t1 : Addr) (val : Value) : Prop where
  keep : ∀ b o, b ≠ e → h.get? b = some o → h'.get? b = some o
  obj : h'.get? e = some { cls := .ref C, dict := some dx, data := .fields #[.ref t1, .none, .none, .none, .bool false, .none] }
  dbig : h.objs.size ≤ dx
  dne : dx ≠ e
  ns : h'.Ns1 dx (fun y => if y = "what" then some val else none)
/-- a made error -/
structure Made (h h' : Heap) (e C d : Addr) (val : Value) : Prop where
  keep : ∀ b o, h.get? b = some o → h'.get? b = some o
  new : h.objs.size ≤ e
  obj : ∃ oe vs, h'.get? e = some oe ∧ oe.cls = .ref C ∧ oe.dict = some d ∧ oe.data = .fields vs ∧ vs[1]? = some .none
  dbig : h.objs.size ≤ d
  dne : d ≠ e
  ns : h'.Ns1 d (fun y => if y = "what" then some val else none)
section
variable {prog : Program} {w : World} {A : Around} {E : Value → Shared → Prop} {R : Result → Shared → Prop} {s : Shared} {K : Frag} {mg : Str → Option Value} {nx : Str} {C fI : Addr}
theorem slotC {M : Model} {name : Str} {scope : Scope} {L a : Addr} {cd : Value} {m : Str → Option Value} {y : Str} {pos : Pos} {val : Value} {Q : Value → Shared → Prop} (hn : s.heap.Ns L m) (hv : m y = some val) (h : Q val s)
    (hk : scope.kind = .function := by rfl) (hl : (envOfC name scope L a cd).kindOf y = some .local := by rfl) (hd : (y == ("__debug__" : Str)) = false := by decide) :
    wpAny M A (eval (.Name y pos) (envOfC name scope L a cd)) Q E s := wpAny_Name (wpAny_loadName_local hk hl hn hv h) hd
theorem what_init (T : WhatTxt K mg nx C fI) {e t0 : Addr} {val : Value} (XK : K.In s.heap) (hlim : s.heap.NoLimit) (he : s.heap.get? e = some (excO C t0)) (hne : K.lookup e = none) (hroom : A.depth < recursionLimit)
    (fin : ∀ h' tk dx, Inited s.heap h' e C dx t0 val → R (.ok (.ret .none)) { s with heap := h', toks := tk }) :
    codeAny (model prog w) A (.call (.ref fI) ⟨[.ref e, val], []⟩) R s := by
  obtain ⟨qual, oc, od, doc, pm, an, cdv, ct, osl, p1, p2, q1, q2, q3, q4, ho, hcd⟩ := T.fn
  obtain ⟨B, newId, initId, nm, q, N, bs, bm, sn, sub, ab, col, dd, k0, k1, k2, k3, k5, un, hC⟩ := T.cls
  have hcl : clsIn K C = some { name := nm, bases := bs, mro := .ref C :: bm, ns := N, qualname := q, hasDict := true, slotNames := sn, subclasses := sub, abstract := ab, collection := col, hasDel := false } := by unfold clsIn; rw [hC] <;> rfl
  refine Att.call_fn (binds := [("self", .ref e), ("what", val)]) XK hlim ho hcd hroom (BindsTo.of_eq (by first | rfl | with_unfolding_all rfl)) (by first | rfl | decide | with_unfolding_all rfl) (fun s1 IC => ?_) rfl rfl rfl
  obtain ⟨h1, tk1, rfl⟩ := IC.toInCall.same
  have kept : ∀ b o, s.heap.get? b = some o → h1.get? b = some o := IC.toInCall.keep
  have ns1 := IC.toInCall.ns
  have he1 := kept _ _ he
  show wpAny _ _ (execs _ _) _ _ _
  refine wpAny_execs_cons (plainObj_wpAny_Assign_Attribute ?_)
  refine slotC (val := val) ns1 (by first | rfl | with_unfolding_all rfl | kernel_rfl) (slotC (val := .ref e) ns1 (by first | rfl | with_unfolding_all rfl | kernel_rfl) ?_)
  refine set_plain (XK.keeps kept) (ox := excO C t0) (od := none) ⟨he1, rfl, rfl, trivial⟩ T.sa ?_
  refine osaW (XK.keeps kept) he1 hcl ⟨bm, rfl, un.pass, un.obj⟩ rfl T.noN (fun h3 tk3 dx k3 dn dne he3 hn3 => ?_)
  show wpAny _ _ (execs _ _) _ _ _
  have lt : s.heap.objs.size < h1.objs.size := ns1.lt
  exact wpAny_execs_nil (fin h3 tk3 dx ⟨fun b o hb eo => k3 b o hb (kept b o eo), he3, Nat.le_of_lt (Nat.lt_of_lt_of_le lt dn), dne, hn3⟩)
theorem what_made (T : WhatTxt K mg nx C fI) {val : Value} (XK : K.In s.heap) (hlim : s.heap.NoLimit) (hroom : A.depth + 1 < recursionLimit)
    (fin : ∀ h' tk e d, Made s.heap h' e C d val → R (.ok (.ret (.ref e))) { s with heap := h', toks := tk }) :
    codeAny (model prog w) A (.call (.ref C) ⟨[val], []⟩) R s := by
  obtain ⟨B, newId, initId, nm, q, N, bs, bm, sn, sub, ab, col, dd, k0, k1, k2, k3, k5, un, hC⟩ := T.cls
  obtain ⟨hp, g, dr, tk, os⟩ := s
  have kept : ∀ b o, hp.get? b = some o → ((hp.push (kdv_tup [val])).push (excO C hp.objs.size)).get? b = some o := fun b o eo => Heap.get?_push_of_some _ (Heap.get?_push_of_some _ eo)
  have at_e : ((hp.push (kdv_tup [val])).push (excO C hp.objs.size)).get? (hp.objs.size + 1) = some (excO C hp.objs.size) := by heap_get
  have not_K : K.lookup (hp.objs.size + 1) = none := by
    cases eo : K.lookup (hp.objs.size + 1) with
    | none => rfl
    | some o => exact absurd (Nat.lt_of_succ_lt (Heap.lt_size (show hp.get? (hp.objs.size + 1) = some o from XK _ _ eo))) (Nat.lt_irrefl _)
  have one : [val].length ≤ sizeLine := by rw [sizeLine_eq]; exact (by decide : 1 ≤ 16777216)
  refine call_own un.facts (fun _ => rfl) (XK _ _ hC) (looks_findIn XK T.iC) (fun self => bind_fn XK self T.tC) one ?_
  refine what_init (s := ⟨(hp.push (kdv_tup [val])).push (excO C hp.objs.size), g, dr, tk, os⟩) T (XK.keeps kept) (hlim.keeps kept) at_e not_K hroom fun h' tk' dx hI => ?_
  obtain ⟨k', hx, dn, dne, hns⟩ := hI
  have old : ∀ b o, hp.get? b = some o → h'.get? b = some o := fun b o eo => k' b o (Nat.ne_of_lt (Nat.lt_succ_of_lt (Heap.lt_size eo))) (kept b o eo)
  have big : hp.objs.size + 1 + 1 ≤ dx := by
    first
      | (simpa only [Heap.size_push] using dn)
      | exact dn
  exact ⟨rfl, fin h' tk' (hp.objs.size + 1) dx ⟨old, Nat.le_succ _, ⟨_, _, hx, rfl, rfl, rfl, rfl⟩, Nat.le_trans (Nat.le_trans (Nat.le_succ _) (Nat.le_succ _)) big, dne, hns⟩⟩
end
end WhatX
end PySem
namespace Rp
open PySem PySem.Spec PyProof.Rows L2 PySem.WhatX
theorem relO_what {v : V} {u : Value} (r : RelV v u) (f : Str) : RelO (List.lookup f [(("what" : Str), v)]) (if f = "what" then some u else none) := by
  by_cases hw : f = "what"
  · subst hw
    rw [if_pos rfl, show List.lookup ("what" : Str) [(("what" : Str), v)] = some v by simp [List.lookup]]
    exact r
  · have qw : (f == ("what" : Str)) = false := by simpa using hw
    rw [if_neg hw, show List.lookup f [(("what" : Str), v)] = none by simp [List.lookup, qw]]
    trivial
section
variable {X : Cx} {nx : Str} {C fI : Addr}
/-- C(e), an error of such a class -/
def tMkWhat (C : Addr) (ta : TA) : L2.St → Hp → XK → Prop := fun σ H Q => ta σ H fun vs H1 => ∃ v, vs = [v] ∧ ∀ d, H1 d = none → Q (.ref C) (some d) (upd H1 d (.xd [(("what" : Str), v)]))
theorem pmk_what {a : Expr} {ta : TA} {p pos : Pos} {k : Nat} (T : WhatTxt X.K X.mg nx C fI) (hr : Room k X.A) (ha : PA X [a] ta) (hg : Gl X nx) (hdb : (nx == ("__debug__" : Str)) = false := by decide)
    (he : starEach (a :: []) X.env = (false, eval a X.env) :: starEach [] X.env := by rfl) (hpl : (backTo pos (starEach [] X.env)).any (·.1) = false := by rfl) :
    PMk X (.Call (.Name nx p) [a] [] pos) (tMkWhat C ta) := by
  intro pins s σ H Q I h
  refine wpAny_Call_Name_kw (ld_glob I hg T.gC ?_ hdb)
  refine PySem.W.callWith_K (h₀ := X.base) I.ok.mod.kin T.kC (thn (ha.run pos pins s σ H _ I h) fun us s1 hh => ?_) he hpl
  obtain ⟨vs, H1, I1, r1, v, ev, q1⟩ := hh
  subst ev
  refine ⟨I1.kIn, ?_⟩
  cases r1 with
  | cons rv rn =>
    rename_i v' us'
    cases rn
    show wpAny _ _ (call (.ref C) [v']) _ _ _
    have hlim := I1.nolimit
    obtain ⟨hp, g, dr, tk, os⟩ := s1
    refine wpAny_call (what_made T I1.kIn hlim (by have := hr.dp; omega) fun h' tk' e d M => ?_)
    show MkP X pins σ Q (.ref e) ⟨h', g, dr, tk', os⟩
    obtain ⟨oe, fv, hoe, hc, hd, hdat, h1⟩ := M.obj
    have hns := M.ns
    obtain ⟨G', g1, g2⟩ := restrict h' fun b => decide (b ≠ e)
    have gk : ∀ b, b ≠ e → G'.get? b = h'.get? b := fun b hb => g1 b (decide_eq_true hb)
    have ge : G'.get? e = none := g2 e (by simp)
    have old : ∀ b o, hp.get? b = some o → G'.get? b = some o := fun b o q => (gk b (Nat.ne_of_lt (Nat.lt_of_lt_of_le (Heap.lt_size q) M.new))).trans (M.keep b o q)
    have ob : ObjOk X.prog X.w (upd H1 d (.xd [(("what" : Str), v)])) G' d (.xd [(("what" : Str), v)]) :=
      ⟨_, hns.at (fun o q => (gk d M.dne).trans q), fun f => relO_what rv f⟩
    have J : Inv X pins σ (upd H1 d (.xd [(("what" : Str), v)])) ⟨G', g, dr, tk', os⟩ := I1.laid (t' := tk') old M.dbig ob
    refine ⟨e, oe, fv, ⟨G', g, dr, tk', os⟩, _, .ref C, some d, rfl, J, fun b o q => ?_, ge, hoe, ⟨hc, hd⟩, hdat, h1, ?_, rfl, I1.bare, raises_own T.exC T.tyC, q1 d (I1.hok.fresh M.dbig)⟩
    · by_cases hb : b = e
      · have q' : G'.get? b = some o := q
        rw [hb, ge] at q'; cases q'
      · exact (gk b hb).symm.trans q
    · rw [upd_ne (Ne.symm M.dne)]
      exact I1.hok.fresh M.new
/-- raise C(e) -/
def tRaiseWhat (C : Addr) (W : WX) (ta : TA) : TS := fun _ σ H => tMkWhat C ta σ H fun cls d H' => W cls d σ H'
theorem ps_raiseWhat {a : Expr} {ta : TA} {W : WX} {p pos pos2 : Pos} {k : Nat} (hc : X.calm = true) (T : WhatTxt X.K X.mg nx C fI) (hr : Room k X.A) (tk : Takes X W) (ha : PA X [a] ta) (hg : Gl X nx) (hdb : (nx == ("__debug__" : Str)) = false := by decide)
    (he : starEach (a :: []) X.env = (false, eval a X.env) :: starEach [] X.env := by rfl) (hpl : (backTo pos (starEach [] X.env)).any (·.1) = false := by rfl) :
    PS X (.Raise (some (.Call (.Name nx p) [a] [] pos)) none pos2) (tRaiseWhat C W ta) := ps_raise hc tk (pmk_what T hr ha hg hdb he hpl)
end
end Rp

/-! An error that is caught by a tuple of classes and kept behind the suite. -/
namespace Rp
open PySem PySem.Spec PyProof.Rows L2
/-- the error at a, of the class at C, its own dict at d -/
def ExH (a C d : Addr) : HO := .ext fun h => ∃ (oe : Obj) (vs : Array Value), h.get? a = some oe ∧ oe.cls = .ref C ∧ oe.dict = some d ∧ oe.data = .fields vs
theorem exH_ok {P : Program} {w : World} {H : Hp} {h : Heap} {a C d : Addr} {oe : Obj} {vs : Array Value} (e : h.get? a = some oe) (z : Zc (.ref C) (some d) oe) (hd : oe.data = .fields vs) : ObjOk P w H h a (ExH a C d) :=
  ⟨⟨oe, vs, e, z.1, z.2, hd⟩, ⟨oe, e⟩, fun h1 h2 p k => by
    obtain ⟨o, v, e1, r⟩ := p
    exact ⟨o, v, k _ e1, r⟩⟩
section
variable {X : Cx} {pins : List (Addr × Obj)} {σ : L2.St} {H : Hp} {s : Shared}
/-- an object that is there, younger than the entry, is tracked from now on -/
theorem track {a : Addr} {o : HO} (I : Inv X pins σ H s) (na : H a = none) (n0 : X.s_0.heap.get? a = none) (nL : a ≠ X.env.locals) (nC : ∀ x c, X.env.cells.lookup x = some c → c ≠ a) (nP : ∀ p ∈ X.pn ++ pins, p.1 ≠ a)
    (new : ObjOk X.prog X.w (upd H a o) s.heap a o) : Inv X pins σ (upd H a o) s := by
  have ne0 : ∀ b ob, X.s_0.heap.get? b = some ob → b ≠ a := fun b ob e z => by rw [z, n0] at e; cases e
  refine ⟨I.ok, I.os, I.bare, ⟨I.base.keep, I.base.slot, fun b ob e n hx => ?_, I.base.there, fun b xs e => ?_, fun b ob u e => ?_, fun b ps e => ?_⟩, I.loc, I.cell, ?_, fun x c e => ?_, fun p hp => ?_, ?_, I.len⟩
  · rw [upd_ne (ne0 b ob e)]; exact I.base.free b ob e n hx
  · have q := I.base.tups b xs e
    rw [upd_ne (ne_of_none q na)]; exact q
  · have q := I.base.frzs b ob u e
    rw [upd_ne (ne_of_none q na)]; exact q
  · obtain ⟨m, q⟩ := I.base.tbls b ps e
    exact ⟨m, by rw [upd_ne (ne_of_none q na)]; exact q⟩
  · rw [upd_ne nL.symm]; exact I.free
  · rw [upd_ne (nC x c e)]; exact I.freeC x c e
  · obtain ⟨q1, q2, q3⟩ := I.pin p hp
    exact ⟨q1, by rw [upd_ne (nP p hp)]; exact q2, q3⟩
  · intro b u e
    by_cases hb : b = a
    · subst hb
      rw [upd_same] at e; cases e
      exact new
    · rw [upd_ne hb] at e
      exact (I.hok b u e).stay (fun _ _ _ q => q) (fun c q => by rw [upd_ne (ne_of_none q na)]; exact q) (fun c xs q => by rw [upd_ne (ne_of_none q na)]; exact q)
end
theorem flying_keeps {B h h' : Heap} {l : List Env} {e : Addr} {Z : Obj → Prop} (f : HandSPX.FlyingZ B l e Z h) (k : ∀ b o, h.get? b = some o → h'.get? b = some o) : HandSPX.FlyingZ B l e Z h' := by
  obtain ⟨f1, f2, f3, oe, vs, T, oT, ts, g1, g2, g3, g4, g5, g6, g7, g8, g9⟩ := f
  exact ⟨fun b o q => k b o (f1 b o q), f2, f3.of_keeps (fun b o q _ => ⟨o, k b o q, rfl⟩), oe, vs, T, oT, ts, k _ _ g1, g2, g3, g4, g5, g6, k _ _ g7, g8, g9⟩
/-- how a tuple of classes is matched -/
def ExmTup (K : PySem.W.Frag) (cs : List Value) : Prop := ∀ (M : Model) (h : Heap) (tp e : Addr) (cls : Value) (b : Bool), K.In h → PySem.W.Looks M h (typeOf (.ref e)) cls → h.get? tp = some { cls := .type "tuple", data := .seq cs.toArray } →
  PySem.W.exmAny K cls cs = some b → PySem.W.Looks M h (excMatches (.ref e) (.ref tp)) b
theorem exmTup2 {K : PySem.W.Frag} {c1 c2 : Value} : ExmTup K [c1, c2] := fun _ _ _ _ _ _ X L p x => PySem.W.exm_tup2 X L p x
theorem exmTup3 {K : PySem.W.Frag} {c1 c2 c3 : Value} : ExmTup K [c1, c2, c3] := fun _ _ _ _ _ _ X L p x => PySem.W.exm_tup3 X L p x
theorem exmTup4 {K : PySem.W.Frag} {c1 c2 c3 c4 : Value} : ExmTup K [c1, c2, c3, c4] := fun _ _ _ _ _ _ X L p x => PySem.W.exm_tup4 X L p x
/-- names of the module, one behind the other: nothing changes -/
def NmOk (X : Cx) (es : List Expr) (cs : List Value) : Prop := ∀ (E : Value → Shared → Prop) (pos : Pos) (pins : List (Addr × Obj)) (s : Shared) (σ : L2.St) (H : Hp) (Q : List Value → Shared → Prop), Inv X pins σ H s → Q cs s →
  wpAny (model X.prog X.w) X.A (spliced (backTo pos (starEach es X.env))) Q E s
theorem nm_nil {X : Cx} : NmOk X [] [] := fun _ _ _ _ _ _ _ _ q => Calls.spliced_nil q
theorem nm_cons {X : Cx} {x : Str} {p : Pos} {es : List Expr} {c : Value} {cs : List Value} (hg : Gl X x) (hm : X.mg x = some c) (hr : NmOk X es cs) (hd : (x == ("__debug__" : Str)) = false := by decide)
    (hs : starEach (.Name x p :: es) X.env = (false, eval (.Name x p) X.env) :: starEach es X.env := by rfl) : NmOk X (.Name x p :: es) (c :: cs) := by
  intro E pos pins s σ H Q I q
  rw [hs]
  show wpAny _ _ (spliced ((false, eval (.Name x p) X.env) :: backTo pos (starEach es X.env))) _ _ s
  exact Calls.spliced_cons (ld_glob I hg hm (hr E pos pins s σ H _ I q) hd)
/-- behind the suite the clause's name is gone -/
def goneAt (i : Nat) (D : Ends) : Ends := { nx := fun σ H => D.nx (σ.set i none) H, rt := D.rt, bk := fun σ H => D.bk (σ.set i none) H, ct := fun σ H => D.ct (σ.set i none) H }
/-- what is wished of an error of the body: one of these classes catches it, and it's tracked from then on -/
def wHeld (K : PySem.W.Frag) (cs : List Value) (i : Nat) (ts : Addr → TS) (D : Ends) : WX := fun cls d σ H =>
  ∃ C dd, cls = .ref C ∧ d = some dd ∧ PySem.W.exmAny K cls cs = some true ∧ ∀ a, H a = none → ts a (goneAt i D) (σ.set i (some (.ref a))) (upd H a (ExH a C dd))
section
variable {X : Cx} {n : Str} {i : Nat} {body suite : List Stmt} {b0 : Stmt} {es : List Expr} {kt : Nat} {tpos pos pos' : Pos} {tb : WX → TS} {ts : Addr → TS} {cs : List Value}
theorem suite_plain {pins : List (Addr × Obj)} {σ : L2.St} {H : Hp} {s : Shared} (I : Inv X pins σ H s) (a : Addr) : Inv (X.suite a (X.pn ++ pins)) [] σ H s :=
  ⟨I.ok.suite _ _, I.os, I.bare, I.base, I.loc, I.cell, I.free, I.freeC, fun p hp => I.pin p (by rw [List.append_nil] at hp; exact hp), I.hok, I.len⟩
theorem unsuite_plain {pins pn' : List (Addr × Obj)} {σ : L2.St} {H : Hp} {s : Shared} {a : Addr} (I : Inv (X.suite a (X.pn ++ pins)) pn' σ H s) (ok : X.Ok) : Inv X pins σ H s :=
  ⟨ok, I.os, I.bare, I.base, I.loc, I.cell, I.free, I.freeC, fun p hp => I.pin p (List.mem_append_left _ hp), I.hok, I.len⟩
theorem ps_try_held (hs : X.stack = X.env :: X.outer) (hf : X.env.frame = some X.env.locals) (hN : X.N.Nodup) (hi : X.N[i]? = some n) (hln : X.env.kindOf n = some .local) (hex : X.ex = []) (hlen : cs.length ≤ sizeLine)
    (hE : ExmTup X.K cs) (hnm : ∀ (a : Addr) (pn : List (Addr × Obj)), NmOk (X.suite a pn) es cs)
    (hb : ∀ (W : WX) (pn : List (Addr × Obj)) (xe : Value → Shared → Prop), Takes (X.tr pn xe) W → PassesOwn (model X.prog X.w) X.A X.env xe → PSs (X.tr pn xe) body (tb W))
    (hsu : ∀ (a : Addr) (pn : List (Addr × Obj)), PSs (X.suite a pn) (b0 :: suite) (ts a)) :
    PS X (.Try body [.ExceptHandler (some (.Tuple es kt tpos)) (some n) (b0 :: suite) pos'] [] [] pos) (fun D σ H => tb (wHeld X.K cs i ts D) D σ H) := by
  refine ⟨fun pins s σ H D I h => ?_⟩
  have ok := I.ok
  have frames : X.A.frames = some (X.env :: X.outer) := by rw [ok.frames, hs]
  have isloc : Loc X.env.scope n := .inl hln
  refine wpAny_Try_except ?_
  refine wpAny_mono ((hb (wHeld X.K cs i ts D) (X.pn ++ pins) (fun e s1 => wpAny (model X.prog X.w) X.A (noteFrame e X.env) (fun _ s2 => wpAny (model X.prog X.w) X.A (setFlight e none) (fun _ s3 =>
    wpAny (model X.prog X.w) X.A (handleBy e X.env [.ExceptHandler (some (.Tuple es kt tpos)) (some n) (b0 :: suite) pos']) (SP X pins D) X.xe s3) X.xe s2) X.xe s1) (fun u s' air => ?_) PassesOwn.looking).run [] s σ H D (I.toTry _) h) (fun f s1 hsp => ?_) (fun e s1 he => he)
  · obtain ⟨a, B, sI, pins', σ', H', cls, d, rfl, J', ground, up, sky, na, os, ag, C, dd, rfl, rfl, hx, hyes⟩ := air
    have J : Inv X pins σ' H' sI := J'.ofTry ok
    have sky' : Sky B (X.env :: X.outer) a (Zc (.ref C) (some dd)) X.env.locals s'.heap := by rw [← hs]; exact sky
    show wpAny (model X.prog X.w) X.A (noteFrame (.ref a) X.env) _ _ _
    refine Sky.land Zc.steady frames hf sky' fun h3 fl3 up3 => ?_
    have J3 : Inv X pins σ' H' { s' with heap := h3 } := J.landed ground fl3.1 (up.trans up3) os ag
    obtain ⟨oe3, vs3, he3, hz3, hd3⟩ := fl3.there
    have notFr : a ∉ frs (X.env :: X.outer) := fun hm => by
      obtain ⟨_, o', e', hnf⟩ := fl3.2.2.1.mem hm
      rw [he3] at e'; cases e'
      exact hnf _ hd3
    have nL : a ≠ X.env.locals := fun z => notFr (List.mem_filterMap.mpr ⟨X.env, List.mem_cons_self, by rw [hf, z]⟩)
    have nF : a ∉ X.fs := fun hm => by
      obtain ⟨e, he, q⟩ := List.mem_filterMap.mp hm
      exact notFr (List.mem_filterMap.mpr ⟨e, List.mem_cons_of_mem _ he, q⟩)
    have notI : sI.heap.get? a = none := by
      cases q : sI.heap.get? a with
      | none => rfl
      | some o => have z := ground a o q (by rw [hs]; exact notFr); rw [fl3.2.1] at z; cases z
    have not0 : X.s_0.heap.get? a = none := by
      cases q : X.s_0.heap.get? a with
      | none => rfl
      | some o =>
        obtain ⟨o', z⟩ := J.base.there a o q (by rw [hex]; exact fun z => nomatch z)
        rw [notI] at z; cases z
    have notC : ∀ x c, X.env.cells.lookup x = some c → c ≠ a := fun x c e z => by
      obtain ⟨v, o, q, _⟩ := J.cell x c e
      rw [z, notI] at q; cases q
    have notP : ∀ p ∈ X.pn ++ pins, p.1 ≠ a := fun p hp z => by
      have q := (J.pin p hp).1
      rw [z, notI] at q; cases q
    have S3 := suite_plain J3 a
    refine wpAny_handleBy_cons (codeAny_handlers_test ?_) (by intro q; cases q)
    refine wpAny_Tuple_spliced (hnm a (X.pn ++ pins) _ _ [] _ σ' H' _ S3 ⟨hlen, ?_⟩)
    have old4 : ∀ b o, h3.get? b = some o → (h3.push { cls := .type "tuple", data := .seq cs.toArray }).get? b = some o := fun b o q => Heap.get?_push_of_some _ q
    have fl4 := flying_keeps fl3 old4
    have J4 : Inv X pins σ' H' { s' with heap := h3.push { cls := .type "tuple", data := .seq cs.toArray } } := J3.kept (t' := s'.toks) old4
    have at4 : (h3.push { cls := .type "tuple", data := .seq cs.toArray }).get? h3.objs.size = some { cls := .type "tuple", data := .seq cs.toArray } := Heap.get?_push_size _ rfl
    generalize (h3.push { cls := .type "tuple", data := .seq cs.toArray }) = h4 at old4 fl4 J4 at4 ⊢
    have tyA : PySem.W.Looks (model X.prog X.w) h4 (typeOf (.ref a)) (.ref C) := fun A Q E s k q => wpAny_typeOf_ref (k _ _ (old4 _ _ he3)) (by rw [hz3.1]; exact q)
    refine (hE (model X.prog X.w) h4 _ a (.ref C) true J4.kIn tyA at4 hx).here ?_
    refine codeAny_handlers_suite_as ?_
    refine HandSPX.lands_againZ fl4 fun h5 fl5 up5 => ?_
    obtain ⟨oe5, vs5, he5, hz5, hd5⟩ := fl5.there
    have up34 : h3.UpToSlots h4 := fun b o q _ => ⟨o.slots, old4 b o q⟩
    have J5 : Inv X pins σ' H' { s' with heap := h5 } := J.landed ground fl5.1 (((up.trans up3).trans up34).trans up5) os ag
    have T5 := track J5 na not0 nL notC notP (exH_ok (P := X.prog) (w := X.w) (H := upd H' a (ExH a C dd)) he5 hz5 hd5)
    have S5 := suite_plain T5 a
    refine store_ok (X := X.suite a (X.pn ++ pins)) (v := .ref a) S5 hN hi isloc rfl (fun s6 S6 => ?_) (.inr hln)
    refine wpAny_mono ((hsu a (X.pn ++ pins)).run [] s6 _ _ _ S6 (hyes a na)) (fun f s7 hsp => ?_) (fun _ _ z => False.elim z)
    have end_ : ∀ {σ7 : L2.St} {H7 : Hp} {Q : Shared → Prop}, Inv (X.suite a (X.pn ++ pins)) [] σ7 H7 s7 → (∀ s8, Inv X pins (σ7.set i none) H7 s8 → Q s8) →
        wpAny (model X.prog X.w) X.A (do bindName X.env n .none; unbindBehindTheSuite X.env n pos') (fun _ s8 => Q s8) X.xe s7 := fun {σ7 H7 Q} S7 hq => gone_ok (unsuite_plain S7 ok) hN hi hln hq
    cases f with
    | next =>
      obtain ⟨σ7, H7, S7, q7⟩ := hsp
      exact end_ S7 fun s8 J8 => ⟨_, _, J8, q7⟩
    | brk =>
      obtain ⟨σ7, H7, S7, q7⟩ := hsp
      exact end_ S7 fun s8 J8 => ⟨_, _, J8, q7⟩
    | cont =>
      obtain ⟨σ7, H7, S7, q7⟩ := hsp
      exact end_ S7 fun s8 J8 => ⟨_, _, J8, q7⟩
    | ret u =>
      obtain ⟨v7, σ7, H7, S7, r7, q7⟩ := hsp
      exact end_ S7 fun s8 J8 => ⟨_, _, _, J8, r7, q7⟩
  · cases f with
    | next =>
      obtain ⟨σ', H', J', q⟩ := hsp
      exact wpAny_execs_nil ⟨σ', H', J'.ofTry ok, q⟩
    | brk =>
      obtain ⟨σ', H', J', q⟩ := hsp
      exact ⟨σ', H', J'.ofTry ok, q⟩
    | cont =>
      obtain ⟨σ', H', J', q⟩ := hsp
      exact ⟨σ', H', J'.ofTry ok, q⟩
    | ret u =>
      obtain ⟨v, σ', H', J', r, q⟩ := hsp
      exact ⟨v, σ', H', J'.ofTry ok, r, q⟩
end
end Rp

namespace Rp
open PySem PySem.Spec PyProof.Rows L2 PySem.WhatX
/-- what more the class must say, so that isinstance asks its errors rightly -/
structure IsC (K : PySem.W.Frag) (C : Addr) : Prop where
  hg : PySem.W.findIn K (.ref C) "__getattribute__" = some (some (.builtin "BaseException.__getattribute__"))
  hk : PySem.W.findIn K (.ref C) "__getattr__" = some none
  hs : PySem.W.subIn K (.ref C) (.type "BaseException") = some true
  hd : PySem.W.hasDictIn K C = true
  ha : PySem.W.findIn K (.ref C) "__class__" = some (some (.builtin "object.__class__"))
  hn : PySem.W.specialIn K (.builtin "object.__class__") "__get__" = some (some (.builtin "getset_descriptor.__get__"))
  ht : PySem.W.takesIn K (.builtin "object.__class__") = some true
  hm : PySem.W.mroIn K C (.type "object") = some true
section
variable {X : Cx} {pins : List (Addr × Obj)} {σ : L2.St} {H : Hp} {s : Shared}
/-- the error and its dict, as the heap has them -/
theorem held_inst {a C d : Addr} {fs : List (Str × V)} (I : Inv X pins σ H s) (ha : H a = some (ExH a C d)) (hd : H d = some (.xd fs)) :
    ∃ (oe od : Obj), PySem.W.InstAt s.heap a oe C (some od) ∧ s.heap.get? d = some od ∧ ∃ mA, s.heap.Ns1 d mA ∧ ∀ f, RelO (fs.lookup f) (mA f) := by
  obtain ⟨⟨oe, vs, e1, e2, e3, e4⟩, _⟩ := I.hok a _ ha
  obtain ⟨mA, hns, hr⟩ := (show ObjOk X.prog X.w H s.heap d (.xd fs) from I.hok d _ hd)
  obtain ⟨od, ho, _⟩ := lookIn_ns hns
  exact ⟨oe, od, ⟨e1, e2, by unfold PySem.W.notCls; rw [e4] <;> rfl, by rw [e3]; exact ho⟩, ho, mA, hns, hr⟩
theorem IsC.cl {K : PySem.W.Frag} {C : Addr} (Z : IsC K C) : (PySem.W.clsIn K C).isSome = true := by
  obtain ⟨cd, hc, _⟩ := PySem.W.any_some Z.hd
  rw [hc]; rfl
end
section
variable {X : Cx}
/-- isinstance(e, c), e an error that is kept -/
def rIsH (K : PySem.W.Frag) : List V → Hp → VK → Prop := fun xs H Q => ∃ (a C d : Addr) (fs : List (Str × V)) (c : V) (u : Value) (b : Bool), xs = [.ref a, c] ∧ H a = some (ExH a C d) ∧ H d = some (.xd fs) ∧ IsC K C ∧ ClsV c u ∧ PySem.W.kitOne K (.ref C) u = some b ∧ Q (.bl b) H
theorem call_isH : CallR X (.builtin "isinstance") (rIsH X.K) := by
  intro pins s σ H xs us Q I r h
  obtain ⟨a, C, d, fs, c, u, b, rfl, ha, hd, Z, k, e, q⟩ := h
  obtain ⟨u1, u2, rfl, r1, r2⟩ := vals2 r
  have e2 := k.eq r2
  subst e2
  cases (show u1 = Value.ref a from r1)
  obtain ⟨oe, od, J, _⟩ := held_inst I ha hd
  exact PySem.W.kia_one (PySem.W.kitx_exc Z.cl Z.hg Z.hk Z.hs Z.ha Z.hn Z.ht Z.hm) I.kIn J e (fun z => nomatch z) fun tk => ⟨.bl b, H, I.tok tk, rfl, q⟩
/-- isinstance(e, (c1, c2, ..)) -/
def rIsHT (K : PySem.W.Frag) : List V → Hp → VK → Prop := fun xs H Q => ∃ (a C d : Addr) (fs : List (Str × V)) (tp : Addr) (cs : List V) (us : List Value) (b : Bool), xs = [.ref a, .ref tp] ∧ H a = some (ExH a C d) ∧ H d = some (.xd fs) ∧ IsC K C ∧ H tp = some (.tup cs) ∧ Paired ClsV cs us ∧ PySem.W.kitAny K (.ref C) us = some b ∧ Q (.bl b) H
theorem call_isHT : CallR X (.builtin "isinstance") (rIsHT X.K) := by
  intro pins s σ H xs us Q I r h
  obtain ⟨a, C, d, fs, tp, cs, ws, b, rfl, ha, hd, Z, hT, k, e, q⟩ := h
  obtain ⟨u1, u2, rfl, r1, r2⟩ := vals2 r
  cases (show u1 = Value.ref a from r1)
  cases (show u2 = Value.ref tp from r2)
  obtain ⟨oe, od, J, _⟩ := held_inst I ha hd
  obtain ⟨_, its, rv, o, h1, h2, n, h3⟩ := (show ObjOk X.prog X.w H s.heap tp (.tup cs) from I.hok tp _ hT)
  have e3 := ClsV.all k rv
  subst e3
  obtain ⟨oc, od', dt, sl⟩ := o
  simp only at h2 h3
  subst h2 h3
  exact PySem.W.kia_tup (PySem.W.kitx_exc Z.cl Z.hg Z.hk Z.hs Z.ha Z.hn Z.ht Z.hm) I.kIn J h1 e (fun z => nomatch z) fun tk => ⟨.bl b, H, I.tok tk, rfl, q⟩
/-- e.what, e an error that is kept -/
def tWhatH (K : PySem.W.Frag) (te : TE) : TE := fun σ H Q => te σ H fun x H1 => ∃ (a C d : Addr) (v : V), x = .ref a ∧ H1 a = some (ExH a C d) ∧ H1 d = some (.xd [(("what" : Str), v)]) ∧ IsC K C ∧ PySem.W.findIn K (.ref C) "what" = some none ∧ Q v H1
theorem pe_whatH {e : Expr} {te : TE} {pos : Pos} (he : PE X e te) (hb : attributeBase e "what" X.env (eval e X.env) = eval e X.env := by rfl) : PE X (.Attribute e "what" pos) (tWhatH X.K te) := by
  refine ⟨fun pins s σ H Q I h => ?_⟩
  refine attr_of hb (thn (he.run pins s σ H _ I h) fun u s1 hh => ?_)
  obtain ⟨x, H1, I1, rx, a, C, d, v, ex, ha, hd, Z, nw, q⟩ := hh
  subst ex
  obtain rfl : u = Value.ref a := rx
  obtain ⟨oe, od, J, ho, mA, hns, hr⟩ := held_inst I1 ha hd
  obtain ⟨od2, ho2, hl⟩ := lookIn_ns hns
  rw [ho] at ho2; cases ho2
  have l : List.lookup ("what" : Str) [(("what" : Str), v)] = some v := by simp [List.lookup]
  obtain ⟨u, hu, ru⟩ := RelO.some_of (v := v) (o := mA "what") (by rw [← l]; exact hr "what")
  exact HandSPX.exc_get I1.kIn J Z.hg Z.hk Z.hs (PySem.W.findObj_own Z.hd nw rfl (by rw [hl, hu])) (handed_of ru) ⟨v, H1, I1.tok _, ru, q⟩
end
/-! ### classes beside one another -/
theorem exm_own {K : PySem.W.Frag} {a b : Addr} {r : Bool} (hb : PySem.W.subIn K (.ref b) (.type "BaseException") = some true) (hd : PySem.W.hasDictIn K b = true) (ht : PySem.W.typeIn K (.ref b) = some (.type "type")) (h : PySem.W.subIn K (.ref a) (.ref b) = some r) :
    PySem.W.exmOne K (.ref a) (.ref b) = some r := PySem.W.exm_ref hb hd ht h
theorem kitCls_own {K : PySem.W.Frag} {a b : Addr} {r : Bool} (hb : PySem.W.subIn K (.ref b) (.type "BaseException") = some true) (hd : PySem.W.hasDictIn K b = true) (ht : PySem.W.typeIn K (.ref b) = some (.type "type")) (h : PySem.W.subIn K (.ref a) (.ref b) = some r) :
    PySem.W.kitCls K (.ref a) (.ref b) = some r := by
  have e := exm_own hb hd ht h
  unfold PySem.W.exmOne at e
  rw [if_pos (by rw [hb]; rfl)] at e
  exact e
theorem kit_own {K : PySem.W.Frag} {a b : Addr} {r : Bool} (hb : PySem.W.subIn K (.ref b) (.type "BaseException") = some true) (hd : PySem.W.hasDictIn K b = true) (ht : PySem.W.typeIn K (.ref b) = some (.type "type")) (hs : PySem.W.subIn K (.ref b) (.ref b) = some true) (h : PySem.W.subIn K (.ref a) (.ref b) = some r) :
    PySem.W.kitOne K (.ref a) (.ref b) = some r := by
  unfold PySem.W.kitOne
  by_cases c : (Value.ref a == Value.ref b) = true
  · rw [if_pos c]
    have e : a = b := Value.ref.inj (beq_iff_eq.mp c)
    subst e
    rw [hs] at h
    exact h
  · rw [if_neg c]
    exact kitCls_own hb hd ht h
theorem kit_builtin {K : PySem.W.Frag} {a : Addr} {t : String} {r : Bool} (hm : PySem.W.kitMeta t = true) (h : PySem.W.subIn K (.ref a) (.type t) = some r) : PySem.W.kitOne K (.ref a) (.type t) = some r := by
  unfold PySem.W.kitOne
  rw [if_neg (by intro z; cases (beq_iff_eq.mp z))]
  unfold PySem.W.kitCls
  first
    | (rw [if_pos hm]; exact h)
    | (simp only [hm, if_true]; exact h)
end Rp

namespace Rp
open PySem PySem.Spec PyProof.Rows L2 TL RZ
def topS (i : Nat) : Stmt := PySem.Challenge.pw_ripepicks_k22_fruits_placed_otherwise.main.body.getD i (.Pass ⟨0, 0, 0, 0⟩)
abbrev s_others : Stmt := topS 4
abbrev s_placed : Stmt := topS 6
abbrev s__law_tape : Stmt := topS 8
abbrev s__law_draw : Stmt := topS 9
abbrev s__law_folded : Stmt := topS 10
abbrev s__law_names : Stmt := topS 11
abbrev s__law_part : Stmt := topS 12
abbrev s__law_same : Stmt := topS 13
abbrev s__law_refused : Stmt := topS 14
abbrev s__law_right : Stmt := topS 15
abbrev s_law : Stmt := topS 16
def gKb (us ws : List Value) : List Value := match us with
  | [] => ws.reverse
  | _ => []
def gKbV (us ws : List V) : List V := match us with
  | [] => ws.reverse
  | _ => []
structure Txt (K : PySem.W.Frag) (mg : Str → Option Value) where
  f_others : Addr
  fd_others : FuncData
  F_others : Fun K "others" "others" s_others f_others fd_others
  b_others : Binds K fd_others ["fruits", "fruit"] []
  g_others : mg "others" = some (.ref f_others)
  f_placed : Addr
  fd_placed : FuncData
  F_placed : Fun K "placed" "placed" s_placed f_placed fd_placed
  b_placed : Binds K fd_placed ["liking", "fruit", "place"] []
  g_placed : mg "placed" = some (.ref f_placed)
  f__law_tape : Addr
  fd__law_tape : FuncData
  F__law_tape : Fun K "_law_tape" "_law_tape" s__law_tape f__law_tape fd__law_tape
  b__law_tape : Binds K fd__law_tape ["_law_script", "_law_k"] []
  g__law_tape : mg "_law_tape" = some (.ref f__law_tape)
  f__law_draw : Addr
  fd__law_draw : FuncData
  F__law_draw : Fun K "_law_draw" "_law_draw" s__law_draw f__law_draw fd__law_draw
  b__law_draw : Binds K fd__law_draw ["_law_tape_here", "_law_many"] []
  g__law_draw : mg "_law_draw" = some (.ref f__law_draw)
  f__law_folded : Addr
  fd__law_folded : FuncData
  F__law_folded : Fun K "_law_folded" "_law_folded" s__law_folded f__law_folded fd__law_folded
  b__law_folded : Binds K fd__law_folded ["_law_script", "_law_many"] []
  g__law_folded : mg "_law_folded" = some (.ref f__law_folded)
  f__law_names : Addr
  fd__law_names : FuncData
  F__law_names : Fun K "_law_names" "_law_names" s__law_names f__law_names fd__law_names
  b__law_names : Binds K fd__law_names ["_law_tape_here", "_law_many"] []
  g__law_names : mg "_law_names" = some (.ref f__law_names)
  f__law_part : Addr
  fd__law_part : FuncData
  F__law_part : Fun K "_law_part" "_law_part" s__law_part f__law_part fd__law_part
  b__law_part : Binds K fd__law_part ["_law_tape_here", "_law_some", "_law_many"] []
  g__law_part : mg "_law_part" = some (.ref f__law_part)
  f__law_same : Addr
  fd__law_same : FuncData
  F__law_same : Fun K "_law_same" "_law_same" s__law_same f__law_same fd__law_same
  b__law_same : Binds K fd__law_same ["_law_found", "_law_due"] []
  g__law_same : mg "_law_same" = some (.ref f__law_same)
  f__law_refused : Addr
  fd__law_refused : FuncData
  F__law_refused : Fun K "_law_refused" "_law_refused" s__law_refused f__law_refused fd__law_refused
  b__law_refused : Binds K fd__law_refused ["_law_likings", "_law_fruits"] []
  g__law_refused : mg "_law_refused" = some (.ref f__law_refused)
  f__law_right : Addr
  fd__law_right : FuncData
  F__law_right : Fun K "_law_right" "_law_right" s__law_right f__law_right fd__law_right
  b__law_right : Binds K fd__law_right ["_law_tape_here"] []
  g__law_right : mg "_law_right" = some (.ref f__law_right)
  f_law : Addr
  fd_law : FuncData
  F_law : Fun K "law" "law" s_law f_law fd_law
  b_law : Binds K fd_law ["_law_script"] []
  g_law : mg "law" = some (.ref f_law)
  c_NoFruit : Addr
  i_NoFruit : Addr
  g_NoFruit : mg "NoFruit" = some (.ref c_NoFruit)
  w_NoFruit : PySem.WhatX.WhatTxt K mg "NoFruit" c_NoFruit i_NoFruit
  is_NoFruit : IsC K c_NoFruit
  c_NoPlace : Addr
  i_NoPlace : Addr
  g_NoPlace : mg "NoPlace" = some (.ref c_NoPlace)
  w_NoPlace : PySem.WhatX.WhatTxt K mg "NoPlace" c_NoPlace i_NoPlace
  is_NoPlace : IsC K c_NoPlace
  x_NoFruit_NoFruit : PySem.W.exmOne K (.ref c_NoFruit) (.ref c_NoFruit) = some true
  ki_NoFruit_NoFruit : PySem.W.kitOne K (.ref c_NoFruit) (.ref c_NoFruit) = some true
  x_NoFruit_NoPlace : PySem.W.exmOne K (.ref c_NoFruit) (.ref c_NoPlace) = some false
  ki_NoFruit_NoPlace : PySem.W.kitOne K (.ref c_NoFruit) (.ref c_NoPlace) = some false
  kt_NoFruit_LookupError : PySem.W.kitOne K (.ref c_NoFruit) (.type "LookupError") = some true
  kb_placed : KBinds K fd_placed ["liking", "fruit", "place"] ["place", "fruit", "liking"] gKb gKbV
  m_len : mg "len" = none
  m_abs : mg "abs" = none
  m_int : mg "int" = none
  m_list : mg "list" = none
  m_tuple : mg "tuple" = none
  m_all : mg "all" = none
  m_any : mg "any" = none
  m_isinstance : mg "isinstance" = none
  m_max : mg "max" = none
  m_min : mg "min" = none
  m_range : mg "range" = none
  m_enumerate : mg "enumerate" = none
  m_zip : mg "zip" = none
  m_str : mg "str" = none
  m_bool : mg "bool" = none
  m_LookupError : mg "LookupError" = none
  m_repr : mg "repr" = none
  m_sorted : mg "sorted" = none
  m_set : mg "set" = none
theorem sc__law_tape : FnScope ["_law_script", "_law_k", "_law_cell"] ["_law_script", "_law_k"] (defScope s__law_tape) := ⟨rfl, rfl, rfl, by decide +kernel, rfl, by decide +kernel, by decide +kernel⟩
theorem sc__law_draw : FnScope ["_law_tape_here", "_law_many", "_law_once", "_law_twice", "_law_wide", "_law_found"] ["_law_tape_here", "_law_many"] (defScope s__law_draw) := ⟨rfl, rfl, rfl, by decide +kernel, rfl, by decide +kernel, by decide +kernel⟩
theorem sc__law_folded : FnScope ["_law_script", "_law_many", "_law_cells", "_law_k", "_law_cell"] ["_law_script", "_law_many"] (defScope s__law_folded) := ⟨rfl, rfl, rfl, by decide +kernel, rfl, by decide +kernel, by decide +kernel⟩
section
variable {P : Program} {w : World} {K : PySem.W.Frag} {mg : Str → Option Value} {base : Heap}
def sp__law_tape (K : PySem.W.Frag) : Sp := fun vs H Q _ => ∃ (a : Addr) (ns : List Int) (k : Nat), vs = [.ref a, .int k] ∧ SqL K H a (ns.map V.int) ∧ ns.length ≤ 1000 ∧ k ≤ 1000 ∧
  ∀ t, H t = none → ∀ H', TapeAt H' t 0 → (∀ b, b ≠ t → H' b = H b) → Q (.ref t) H'
theorem ok__law_tape (T : Txt K mg) : FnOk P w K mg base CX0 1 T.f__law_tape T.fd__law_tape ["_law_script", "_law_k"] (sp__law_tape K) := by
  refine T.F__law_tape.ok sc__law_tape (fun vs H Q E h => ?_) (fun cdv A outer s H vs Q E hr h => ?_)
  · obtain ⟨a, ns, k, rfl, _⟩ := h
    rfl
  · obtain ⟨a, ns, k, rfl, hS, hlen, hk, q⟩ := h
    refine ⟨_, (pss_cons (ps_set (i := 2) sc__law_tape.nd rfl (by first | exact Or.inl rfl | exact Or.inr rfl) (pe_ifExp (pt_cmpR op_lt (pv 1) (pe_callB call_len_seq (by rfl) T.m_len (by decide +kernel) (pa_cons (pv 0) pa_nil)) (nomark _)) (pe_ix ix_list (pv 0) (pv 1) (fun _ _ => rfl)) pe_int))
      (pss_one (ps_ret (pe_lst (pa_cons (pe_op op_mul (pe_callB call_abs (by rfl) T.m_abs (by decide +kernel) (pa_cons (pv 2) pa_nil)) (pe_callTy call_int1 (by rfl) T.m_int (by decide +kernel) (pa_cons (pe_cmpR op_ge (pe_callB call_abs (by rfl) T.m_abs (by decide +kernel) (pa_cons (pv 2) pa_nil)) (pe_op op_pow pe_int pe_int) (nomark _)) pa_nil))) (pa_cons (pe_op op_add (pe_op op_add (pe_op op_mod (pv 2) pe_int) (pe_op op_mul pe_int (pv 1))) pe_int) (pa_cons pe_int pa_nil))))))), ?_⟩
    simp [tSeq, tAsg, tIf, tIfS, tVar, tC, tOp, tUn, rI, rI0, rU, tCB, tCons, tNil, tLst, tTup, tRet, gName, gCons, gNil, gSub, rSetL, tTest, tB, tNot, tAnd, tOr, tAndV, tOrV, tNotV, tNext, tDrop, tCall, tCallK, gKbV, tSl, tNoPart, tPart, tPar, rEq, rNe, tLc_eq, tFor_eq, iRng1, L2.start, cxOf, Cx.nox, StX.tStar]
    refine ⟨_, .inl hS, ?_⟩
    have c1 : CPow 10 18 := by unfold CPow; decide
    have c3 : CMul 39373 (k : Int) := by unfold CMul; left; decide
    have sz : 3 ≤ sizeLine := by rw [sizeLine_eq]; decide
    by_cases hlt : k < ns.length
    · rw [if_pos (by simpa using hlt)]
      have ge : (ns.map V.int)[k]? = some (.int ns[k]) := by rw [List.getElem?_map, List.getElem?_eq_getElem hlt]; rfl
      generalize ns[k] = x at ge
      refine ixL hS (atI_nat ge) ⟨x, rfl, x, rfl, c1, ?_, x, rfl, c3, sz, fun p hp => q p hp _ ⟨_, _, _, upd_same, ?_, ?_, ?_, by omega, by omega⟩ (fun b hb => upd_ne hb)⟩
      · unfold CMul; right; split <;> omega
      · split <;> split <;> omega
      · omega
      · omega
    · rw [if_neg (by simpa using hlt)]
      exact ⟨c1, by unfold CMul; left; decide, c3, sz, fun p hp => q p hp _ ⟨_, _, _, upd_same, by omega, by omega, by omega, by omega, by omega⟩ (fun b hb => upd_ne hb)⟩
def sp__law_draw (K : PySem.W.Frag) : Sp := fun vs H Q _ => ∃ (t : Addr) (m : Int) (n : Nat), vs = [.ref t, .int m] ∧ TapeAt H t n ∧ n ≤ 100000000 ∧ 0 < m ∧ m < 1000000 ∧
  ∀ (r : Int) (H' : Hp), 0 ≤ r → r < m → TapeAt H' t (n + 1) → (∀ b, b ≠ t → H' b = H b) → Q (.int r) H'
theorem ok__law_draw (T : Txt K mg) : FnOk P w K mg base CX0 1 T.f__law_draw T.fd__law_draw ["_law_tape_here", "_law_many"] (sp__law_draw K) := by
  refine T.F__law_draw.ok sc__law_draw (fun vs H Q E h => ?_) (fun cdv A outer s H vs Q E hr h => ?_)
  · obtain ⟨t, m, n, rfl, _⟩ := h
    rfl
  · obtain ⟨t, m, n, rfl, ⟨a, b, c, ht, ha, hb, hb2, hc, hcn⟩, hn, hm, hm2, q⟩ := h
    refine ⟨_, (pss_cons (ps_if (pt_cmpR op_gt (pe_ix ix_list (pv 0) pe_int (fun _ _ => rfl)) pe_int (nomark _)) (pss_cons (ps_set (i := 5) sc__law_draw.nd rfl (by first | exact Or.inl rfl | exact Or.inr rfl) (pe_op op_mod (pe_ix ix_list (pv 0) pe_int (fun _ _ => rfl)) (pv 1)))
      (pss_cons (ps_asg (pe_op op_fdivW (pe_ix ix_list (pv 0) pe_int (fun _ _ => rfl)) (pv 1)) (pg_sub (pv 0) pe_int set_list))
      (pss_one (ps_ret (pv 5))))) pss_nil)
      (pss_cons (ps_asg (pe_op op_add (pe_ix ix_list (pv 0) pe_int (fun _ _ => rfl)) pe_int) (pg_sub (pv 0) pe_int set_list))
      (pss_cons (ps_set (i := 2) sc__law_draw.nd rfl (by first | exact Or.inl rfl | exact Or.inr rfl) (pe_op op_mod (pe_op op_pow (pe_op op_add (pe_ix ix_list (pv 0) pe_int (fun _ _ => rfl)) (pe_op op_mul pe_int (pe_ix ix_list (pv 0) pe_int (fun _ _ => rfl)))) pe_int) pe_int))
      (pss_cons (ps_set (i := 3) sc__law_draw.nd rfl (by first | exact Or.inl rfl | exact Or.inr rfl) (pe_op op_mod (pe_op op_mul (pe_op op_add (pv 2) (pe_ix ix_list (pv 0) pe_int (fun _ _ => rfl))) (pe_op op_add (pe_op op_add (pe_op op_mod (pv 2) pe_int) pe_int) (pe_ix ix_list (pv 0) pe_int (fun _ _ => rfl)))) pe_int))
      (pss_cons (ps_set (i := 4) sc__law_draw.nd rfl (by first | exact Or.inl rfl | exact Or.inr rfl) (pe_op op_mod (pe_op op_add (pe_op op_add (pe_op op_fdivW (pe_ix ix_list (pv 0) pe_int (fun _ _ => rfl)) pe_int) (pe_op op_mul (pv 3) pe_int)) (pe_ix ix_list (pv 0) pe_int (fun _ _ => rfl))) pe_int))
      (pss_one (ps_ret (pe_op op_mod (pe_op op_fdivW (pe_op op_mod (pe_op op_add (pe_op op_add (pe_op op_mul (pv 3) pe_int) (pe_op op_mul (pv 4) pe_int)) (pv 2)) pe_int) pe_int) (pv 1))))))))), ?_⟩
    simp [tSeq, tAsg, tIf, tIfS, tVar, tC, tOp, tUn, rI, rI0, rU, tCB, tCons, tNil, tLst, tTup, tRet, gName, gCons, gNil, gSub, rSetL, tTest, tB, tNot, tAnd, tOr, tAndV, tOrV, tNotV, tNext, tDrop, tCall, tCallK, gKbV, tSl, tNoPart, tPart, tPar, rEq, rNe, tLc_eq, tFor_eq, iRng1, L2.start, cxOf, Cx.nox, StX.tStar]
    have ix0 : ∀ x y z : Int, atI [V.int x, V.int y, V.int z] 0 = some (.int x) := fun _ _ _ => rfl
    have ix1 : ∀ x y z : Int, atI [V.int x, V.int y, V.int z] 1 = some (.int y) := fun _ _ _ => rfl
    have ix2 : ∀ x y z : Int, atI [V.int x, V.int y, V.int z] 2 = some (.int z) := fun _ _ _ => rfl
    have dv : ∀ i : Int, CDivW i m := fun i => wide_div hm (b := 30) (by omega) (by decide) (by decide)
    refine ixLH ht (ix0 _ _ _) ⟨a, rfl, ?_⟩
    by_cases h0 : 0 < a
    · rw [if_pos h0]
      refine ixLH ht (ix0 _ _ _) ⟨a, rfl, hm, ixLH ht (ix0 _ _ _) ⟨a, rfl, dv _, _, ht, 0, rfl, ?_⟩⟩
      refine q _ _ (Int.emod_nonneg _ (by omega)) (Int.emod_lt_of_pos _ hm) ⟨a / m, b, c, upd_same, Int.ediv_nonneg ha (by omega), hb, hb2, hc, by omega⟩ (fun b hb => upd_ne hb)
    · rw [if_neg h0]
      refine ixLH ht (ix2 _ _ _) ⟨c, rfl, _, ht, 2, rfl, ?_⟩
      have ht1 : (upd H t (.lst [V.int a, V.int b, V.int (c + 1)])) t = some (.lst [V.int a, V.int b, V.int (c + 1)]) := upd_same
      refine ixLH ht1 (ix1 _ _ _) (ixLH ht1 (ix2 _ _ _) ⟨_, rfl, by unfold CMul; left; decide, _, rfl, ⟨by decide, by decide, by omega⟩, ixLH ht1 (ix2 _ _ _) ⟨_, rfl, ixLH ht1 (ix2 _ _ _) ⟨_, rfl, ?_, ?_⟩⟩⟩)
      · have z := Int.emod_lt_of_pos ((b + 39373 * (c + 1)) ^ 5) (show (0 : Int) < 2147483647 by decide)
        have z0 := Int.emod_nonneg ((b + 39373 * (c + 1)) ^ 5) (show (2147483647 : Int) ≠ 0 by decide)
        unfold CMul; left; constructor <;> omega
      · have cm : ∀ (x y : Int), (-(2 ^ 64) < y ∧ y < 2 ^ 64) → CMul x y := fun x y h => .inr h
        refine ixLH ht1 (ix1 _ _ _) ⟨_, rfl, wide_div (by decide) (b := 40) (by decide) (by decide) (by decide), cm _ _ (by decide), ixLH ht1 (ix2 _ _ _) ⟨_, rfl, cm _ _ (by decide), cm _ _ (by decide), wide_div (by decide) (b := 30) (by decide) (by decide) (by decide), hm, ?_⟩⟩
        exact q _ _ (Int.emod_nonneg _ (by omega)) (Int.emod_lt_of_pos _ hm) ⟨a, b, c + 1, upd_same, ha, hb, hb2, by omega, by omega⟩ (fun b hb => upd_ne hb)
def sp__law_folded (K : PySem.W.Frag) : Sp := fun vs H Q _ => ∃ (a : Addr) (ns : List Int) (m : Nat), vs = [.ref a, .int m] ∧ SqL K H a (ns.map V.int) ∧ ns.length ≤ 63 ∧ 0 < m ∧ m ≤ 10 ∧
  ∀ (p : Addr) (H' : Hp) (cs : List Int), cs.length ≤ m → (ns ≠ [] → cs ≠ []) → H p = none → Same H H' → H' p = some (.lst (cs.map V.int)) → Q (.ref p) H'
def Pfold (H : Hp) (a l c : Addr) (m : Nat) (ns : List Int) (_ : Nat) (σ : L2.St) (H' : Hp) : Prop := ∃ (y3 y4 : Option V) (cs : List Int), σ = [some (.ref a), some (.int m), some (.ref l), y3, y4] ∧ Same H H' ∧ H' l = some (.lst (cs.map V.int)) ∧ cs.length = (ns.take m).length ∧ H' c = some (.lst (((ns.take 63).drop m).map V.int))
theorem ok__law_folded (T : Txt K mg) : FnOk P w K mg base CX0 1 T.f__law_folded T.fd__law_folded ["_law_script", "_law_many"] (sp__law_folded K) := by
  refine T.F__law_folded.ok sc__law_folded (fun vs H Q E h => ?_) (fun cdv A outer s H vs Q E hr h => ?_)
  · obtain ⟨t, m, n, rfl, _⟩ := h
    rfl
  · obtain ⟨a, ns, m, rfl, hS, hlen, hm, hm2, q⟩ := h
    refine ⟨_, (pss_cons (ps_set (i := 2) sc__law_folded.nd rfl (by first | exact Or.inl rfl | exact Or.inr rfl) (pe_callTy call_list_of (by rfl) T.m_list (by decide +kernel) (pa_cons (pe_slice sl_list (pv 0) po_none (po_some (pv 1))) pa_nil)))
      (pss_cons (ps_for PassesOwn.never rfl (pi_enum (by rfl) T.m_enumerate (pa_cons (pe_slice sl_list (pv 0) (po_some (pv 1)) (po_some pe_int)) pa_nil)) (pg_tup rfl (pgs_cons (pg_name (i := 3) sc__law_folded.nd rfl (by first | exact Or.inl rfl | exact Or.inr rfl)) (pgs_cons (pg_name (i := 4) sc__law_folded.nd rfl (by first | exact Or.inl rfl | exact Or.inr rfl)) pgs_nil)))
      (pss_one (ps_asg (pe_op op_add (pe_ix ix_list (pv 2) (pe_op op_mod (pv 3) (pv 1)) (fun _ _ => rfl)) (pe_op op_mul (pv 4) (pe_op op_add (pv 3) pe_int))) (pg_sub (pv 2) (pe_op op_mod (pv 3) (pv 1)) set_list))))
      (pss_one (ps_ret (pv 2))))), ?_⟩
    simp [tSeq, tAsg, tIf, tIfS, tVar, tC, tOp, tUn, rI, rI0, rU, tCB, tCons, tNil, tLst, tTup, tRet, gName, gCons, gNil, gSub, rSetL, tTest, tB, tNot, tAnd, tOr, tAndV, tOrV, tNotV, tNext, tDrop, tCall, tCallK, gKbV, tSl, tNoPart, tPart, tPar, rEq, rNe, tLc_eq, tFor_eq, iRng1, L2.start, cxOf, Cx.nox, StX.tStar]
    refine ⟨a, _, rfl, hS, fun c1 n1 => ⟨c1, rfl, _, .inl (.inl (.inl upd_same)), fun l nl => ?_⟩⟩
    rw [cutV_to, ← List.map_take] at nl ⊢
    have s1 : Same H (upd H c1 (.lst ((ns.take m).map V.int))) := Same.new n1
    have s2 : Same (upd H c1 (.lst ((ns.take m).map V.int))) (upd (upd H c1 (.lst ((ns.take m).map V.int))) l (.lst ((ns.take m).map V.int))) := Same.new nl
    have nl0 : H l = none := s1.free nl
    generalize hHl : upd (upd H c1 (.lst ((ns.take m).map V.int))) l (.lst ((ns.take m).map V.int)) = Hl at s2
    have el : Hl l = some (.lst ((ns.take m).map V.int)) := by rw [← hHl]; exact upd_same
    have s3 := s1.trans s2
    refine ⟨.ref a, rfl, .int m, rfl, m, rfl, 63, rfl, a, _, rfl, s3.seq hS, fun c nc => ⟨c, _, rfl, .inl (.inl upd_same), ?_⟩⟩
    rw [show (63 : Int) = ((63 : Nat) : Int) from rfl, cutV_mid, ← List.map_take, ← List.map_drop]
    have s4 : Same Hl (upd Hl c (.lst (((ns.take 63).drop m).map V.int))) := Same.new nc
    have ncl : c ≠ l := fun e => by rw [e, el] at nc; cases nc
    refine for_it (walk_enum (xs := ((ns.take 63).drop m).map V.int)) (Pfold H a l c m ns)
      ⟨none, none, ns.take m, rfl, s3.trans s4, s4 _ _ el, rfl, upd_same⟩ (fun i σ H' _ h => ?_) (fun i x σ H1 H2 hi h hy => ?_) (fun σ H' h => ?_)
    · obtain ⟨_, _, _, _, _, _, _, h⟩ := h
      exact .inl (.inl h)
    · obtain ⟨y3, y4, cs, rfl, sm, e1, e2, e3⟩ := h
      obtain ⟨T1, x1, x2, rfl, nT, rfl, ex1, ex2⟩ := hy
      have ex1 : V.int i = x1 := Option.some.inj ex1
      subst ex1
      dsimp only at ex2
      rw [List.getElem?_map] at ex2
      obtain ⟨z, ez, rfl⟩ := Option.map_eq_some_iff.mp ex2
      have lcs : cs.length = m := by
        rw [List.length_map, List.length_drop, List.length_take] at hi
        rw [e2, List.length_take]
        omega
      refine gTup2 (.inl (.inl upd_same)) ?_
      simp [tSeq, tAsg, tIf, tIfS, tVar, tC, tOp, tUn, rI, rI0, rU, tCB, tCons, tNil, tLst, tTup, tRet, gName, gCons, gNil, gSub, rSetL, tTest, tB, tNot, tAnd, tOr, tAndV, tOrV, tNotV, tNext, tDrop, tCall, tCallK, gKbV, tSl, tNoPart, tPart, tPar, rEq, rNe, tLc_eq, tFor_eq, iRng1, L2.start, cxOf, Cx.nox, StX.tStar]
      have lt : i % m < cs.length := by rw [lcs]; exact Nat.mod_lt _ hm
      have e1T : (upd H1 T1 (.tup [.int i, .int z])) l = some (.lst (cs.map V.int)) := by rw [upd_ne (ne_of_none e1 nT)]; exact e1
      refine ⟨by omega, ixLH e1T (atI_ok (k := i % m) (by omega) (by rw [List.length_map]; exact lt)) ⟨?_, cs[i % m], by rw [List.getElem_map], by omega, _, e1T, i % m, ixN_ok (by omega) (by rw [List.length_map]; exact lt), ?_⟩⟩
      · rw [List.length_map, List.length_drop, List.length_take] at hi
        unfold CMul; right; constructor <;> omega
      · refine ⟨_, _, cs.set (i % m) (cs[i % m] + z * (i + 2)), rfl, fun b o e => ?_, ?_, ?_, ?_⟩
        · rw [upd_ne (ne_of_none e nl0), upd_ne (ne_of_none (sm _ _ e) nT)]
          exact sm _ _ e
        · rw [upd_same, List.map_set]
        · rw [List.length_set, e2, List.length_take]
        · rw [upd_ne ncl, upd_ne (ne_of_none e3 nT)]
          exact e3
    · obtain ⟨y3, y4, cs, rfl, sm, e1, e2, e3⟩ := h
      refine ⟨.ref l, rfl, q l H' cs ?_ ?_ nl0 sm e1⟩
      · rw [e2, List.length_take]; omega
      · intro hne hc
        rw [hc, List.length_nil, List.length_take] at e2
        have : ns.length ≠ 0 := fun z => hne (List.length_eq_zero_iff.mp z)
        omega
end
theorem sc__law_names : FnScope ["_law_tape_here", "_law_many", "_law_stem", "_law_k", "_law_letters", "_law_shift", "_law_at", "_law_step", "_law_found", "_law_head", "_law_tail", "_law_way", "_law_sign"] ["_law_tape_here", "_law_many"] (defScope s__law_names) := ⟨rfl, rfl, rfl, by decide +kernel, rfl, by decide +kernel, by decide +kernel⟩
section
variable {P : Program} {w : World} {K : PySem.W.Frag} {mg : Str → Option Value} {base : Heap}
def sp__law_names (K : PySem.W.Frag) : Sp := fun vs H Q _ => ∃ (t : Addr) (m n : Nat), vs = [.ref t, .int m] ∧ TapeAt H t n ∧ n ≤ 90000000 ∧ m ≤ 26 ∧
  ∀ (zs : List Str) (p : Addr) (H' : Hp), zs.length = m → zs.Nodup → (∀ z ∈ zs, IsName z) → H p = none → TapeAt H' t (n + 20) → Ext t H H' → H' p = some (.lst (zs.map V.str)) → Q (.ref p) H'
def Pstem (t D : Addr) (H1 : Hp) (n : Nat) (i : Nat) (H' : Hp) : Prop := ∃ cs : List Nat, cs.length = i ∧ (∀ c ∈ cs, 97 ≤ c ∧ c ≤ 122) ∧ H' D = some (.lst (cs.map fun c => V.str (tx [c]))) ∧ TapeAt H' t (n + i) ∧ Ext t H1 H'
def Pnames (t p : Addr) (H0 : Hp) (N m : Nat) (cs : List Nat) (sh at_ st w : Nat) (i : Nat) (σ : L2.St) (H' : Hp) : Prop := ∃ y3 y11 y12 : Option V,
  σ = [some (.ref t), some (.int m), some (.str (tx cs)), y3, some (.str (Str.ofString "abcdefghijklmnopqrstuvwxyz")), some (.int sh), some (.int at_), some (.int st), some (.ref p), some (.str (tx (cs.take at_))), some (.str (tx (cs.drop at_))), y11, y12] ∧
  H' p = some (.lst ((List.range i).map fun k => V.str (tx (nm sh st w (cs.take at_) (cs.drop at_) k)))) ∧ TapeAt H' t N ∧ Ext t H0 H'
theorem ok__law_names (T : Txt K mg) : FnOk P w K mg base CX0 2 T.f__law_names T.fd__law_names ["_law_tape_here", "_law_many"] (sp__law_names K) := by
  refine T.F__law_names.ok sc__law_names (fun vs H Q E h => ?_) (fun cdv A outer s H vs Q E hr h => ?_)
  · obtain ⟨t, m, n, rfl, _⟩ := h
    rfl
  · obtain ⟨t, m, n, rfl, hT, hn, hm, q⟩ := h
    refine ⟨_, (pss_cons (ps_asg (pe_tup (pa_cons pe_str (pa_cons (pe_call (ok__law_draw T) (hr.mono (by decide)) (by rfl) T.g__law_draw T.F__law_draw.kp T.b__law_draw .nil pass0 (pa_cons (pv 0) (pa_cons pe_int pa_nil))) pa_nil))) (pg_tup rfl (pgs_cons (pg_name (i := 4) sc__law_names.nd rfl (by first | exact Or.inl rfl | exact Or.inr rfl)) (pgs_cons (pg_name (i := 5) sc__law_names.nd rfl (by first | exact Or.inl rfl | exact Or.inr rfl)) pgs_nil))))
      (pss_cons (ps_set (i := 2) sc__law_names.nd rfl (by first | exact Or.inl rfl | exact Or.inr rfl) (pe_join pe_str (pe_lc (own := [("_law_k", 3)]) (g := (gName 3)) (tt := tYes) (te := (tOp rIxS (tVar 4) (tCall (sp__law_draw K) [] E0 (tCons (tVar 0) (tCons (tC (.int 26)) tNil))))) (by rfl) sc__law_names.nd (pi_range1 (by rfl) T.m_range (pa_cons (pe_call (ok__law_draw T) (hr.mono (by decide)) (by rfl) T.g__law_draw T.F__law_draw.kp T.b__law_draw .nil pass0 (pa_cons (pv 0) (pa_cons pe_int pa_nil))) pa_nil)) (blkOk_by (own := [("_law_k", 3)]) (N := ["_law_tape_here", "_law_many", "_law_stem", "_law_k", "_law_letters", "_law_shift", "_law_at", "_law_step", "_law_found", "_law_head", "_law_tail", "_law_way", "_law_sign"]) (sc := defScope s__law_names) (by decide +kernel)) (fun _ _ _ _ _ => (pg_name (i := 3) sc__law_names.nd rfl (by first | exact Or.inl rfl | exact Or.inr rfl))) (fun _ _ _ _ _ => pts_nil) (fun _ _ _ _ _ => (pe_ix ix_str (pv 4) (pe_call (ok__law_draw T) (hr.mono (by decide)) (by rfl) T.g__law_draw T.F__law_draw.kp T.b__law_draw .nil pass0 (pa_cons (pv 0) (pa_cons pe_int pa_nil))) (fun _ _ => rfl))))))
      (pss_cons (ps_par3 (by rfl) sc__law_names.nd (i := 6) (j := 7) (l := 8) rfl rfl rfl (by decide) (by decide) (by decide) rfl rfl rfl (pa_cons (pe_call (ok__law_draw T) (hr.mono (by decide)) (by rfl) T.g__law_draw T.F__law_draw.kp T.b__law_draw .nil pass0 (pa_cons (pv 0) (pa_cons (pe_op op_add (pe_callB call_len_str (by rfl) T.m_len (by decide +kernel) (pa_cons (pv 2) pa_nil)) pe_int) pa_nil))) (pa_cons (pe_ix ix_list (pe_lst (pa_cons pe_int (pa_cons pe_int (pa_cons pe_int pa_nil)))) (pe_call (ok__law_draw T) (hr.mono (by decide)) (by rfl) T.g__law_draw T.F__law_draw.kp T.b__law_draw .nil pass0 (pa_cons (pv 0) (pa_cons pe_int pa_nil))) (fun _ _ => rfl)) (pa_cons (pe_lst pa_nil) pa_nil))) (by rfl))
      (pss_cons (ps_par (by rfl) sc__law_names.nd (i := 9) (j := 10) rfl rfl (by decide) rfl rfl (pa_cons (pe_slice sl_str (pv 2) po_none (po_some (pv 6))) (pa_cons (pe_slice sl_str (pv 2) (po_some (pv 6)) po_none) pa_nil)) (by rfl))
      (pss_cons (ps_for PassesOwn.never rfl (pi_range1 (by rfl) T.m_range (pa_cons (pv 1) pa_nil)) (pg_name (i := 3) sc__law_names.nd rfl (by first | exact Or.inl rfl | exact Or.inr rfl))
      (pss_cons (ps_set (i := 11) sc__law_names.nd rfl (by first | exact Or.inl rfl | exact Or.inr rfl) (pe_op op_mul (pe_op op_mod (pe_op op_add (pe_op op_add (pv 5) (pv 6)) (pe_callB call_len_str (by rfl) T.m_len (by decide +kernel) (pa_cons (pv 2) pa_nil))) pe_int) (pe_callTy call_int1 (by rfl) T.m_int (by decide +kernel) (pa_cons (pe_cmpR op_ne (pv 10) pe_str (nomark _)) pa_nil))))
      (pss_cons (ps_set (i := 12) sc__law_names.nd rfl (by first | exact Or.inl rfl | exact Or.inr rfl) (pe_ix ix_str (pv 4) (pe_op op_mod (pe_op op_add (pv 5) (pe_op op_mul (pv 7) (pe_ix ix_list (pe_lst (pa_cons (pv 3) (pa_cons (pe_op op_fdivW (pv 3) pe_int) (pa_cons (pv 3) pa_nil)))) (pv 11) (fun _ _ => rfl)))) pe_int) (fun _ _ => rfl)))
      (pss_one (ps_expr (pe_bm PySem.F.plainAttrs_list PySem.F.slot_list_append PySem.F.type_list_append mt_append (pv 8) (pa_cons (pe_op op_add_str (pe_op op_add_str (pv 9) (pv 12)) (pe_ix ix_list (pe_lst (pa_cons (pv 10) (pa_cons (pe_op op_rep_str (pv 10) (pe_op op_mod (pv 3) pe_int)) (pa_cons (pe_slice sl_str (pv 10) po_none (po_some (pe_op op_mod (pv 3) (pe_op op_add (pe_callB call_len_str (by rfl) T.m_len (by decide +kernel) (pa_cons (pv 10) pa_nil)) pe_int)))) pa_nil)))) (pv 11) (fun _ _ => rfl))) pa_nil)))))))
      (pss_one (ps_ret (pv 8)))))))), ?_⟩
    simp [tSeq, tAsg, tIf, tIfS, tVar, tC, tOp, tUn, rI, rI0, rU, tCB, tCons, tNil, tLst, tTup, tRet, gName, gCons, gNil, gSub, rSetL, tTest, tB, tNot, tAnd, tOr, tAndV, tOrV, tNotV, tNext, tDrop, tCall, tCallK, gKbV, tSl, tNoPart, tPart, tPar, rEq, rNe, tLc_eq, tFor_eq, iRng1, L2.start, cxOf, Cx.nox, StX.tStar]
    have s2 : 2 ≤ sizeLine := by rw [sizeLine_eq]; decide
    have szl : ∀ k : Nat, k ≤ 1000 → k ≤ sizeLine := fun k h => by rw [sizeLine_eq]; omega
    refine ⟨t, 26, n, rfl, hT, by omega, by decide, by decide, fun sh H1 sh0 sh1 T1 k1 => ⟨s2, fun p1 n1 => gTup2 (.inl (.inl upd_same)) ?_⟩⟩
    have ntp : ∀ {X : Hp} {q : Addr} {j : Nat}, TapeAt X t j → X q = none → q ≠ t := fun h e z => by
      obtain ⟨a, b, c, h, _⟩ := h
      rw [z, h] at e; cases e
    have x1 : Ext t H (upd H1 p1 (.tup [V.str (Str.ofString "abcdefghijklmnopqrstuvwxyz"), V.int sh])) := fun b o nb e => by
      have e' : H1 b = some o := by rw [k1 b nb]; exact e
      rw [upd_ne (ne_of_none e' n1)]; exact e'
    have T1' := T1.new (o := .tup [V.str (Str.ofString "abcdefghijklmnopqrstuvwxyz"), V.int sh]) n1
    generalize upd H1 p1 (.tup [V.str (Str.ofString "abcdefghijklmnopqrstuvwxyz"), V.int sh]) = H2 at x1 T1'
    simp [tSeq, tAsg, tIf, tIfS, tVar, tC, tOp, tUn, rI, rI0, rU, tCB, tCons, tNil, tLst, tTup, tRet, gName, gCons, gNil, gSub, rSetL, tTest, tB, tNot, tAnd, tOr, tAndV, tOrV, tNotV, tNext, tDrop, tCall, tCallK, gKbV, tSl, tNoPart, tPart, tPar, rEq, rNe, tLc_eq, tFor_eq, iRng1, L2.start, cxOf, Cx.nox, StX.tStar, tM1, tLc_eq, iRng1]
    refine ⟨t, 8, n + 1, rfl, T1', by omega, by decide, by decide, fun ln H3 ln0 ln1 T3 k3 => ⟨ln, rfl, by omega, by omega, ?_⟩⟩
    have x3 : Ext t H H3 := x1.trans fun b o nb e => by rw [k3 b nb]; exact e
    refine lcK (walk_range (lo := 0) (n := ln.toNat)) (fun D => Pstem t D H3 (n + 2)) (fun D nD => ⟨[], rfl, (fun _ h => nomatch h), upd_same, T3.new nD, Ext.new nD⟩) (fun _ _ _ _ _ => trivial) (fun D i x Ha Hb nD hi hp hy => ?_) (fun D Ha nD hp => ?_)
    · have nDt : D ≠ t := ntp T3 nD
      obtain ⟨rfl, rfl⟩ := hy
      obtain ⟨cs, l1, l2, l3, l4, l5⟩ := hp
      simp [tSeq, tAsg, tIf, tIfS, tVar, tC, tOp, tUn, rI, rI0, rU, tCB, tCons, tNil, tLst, tTup, tRet, gName, gCons, gNil, gSub, rSetL, tTest, tB, tNot, tAnd, tOr, tAndV, tOrV, tNotV, tNext, tDrop, tCall, tCallK, gKbV, tSl, tNoPart, tPart, tPar, rEq, rNe, tLc_eq, tFor_eq, iRng1, L2.start, cxOf, Cx.nox, StX.tStar, wipe, tYes]
      refine ⟨t, 26, n + 2 + i, rfl, l4, by omega, by decide, by decide, fun r Hc r0 r1 Tc kc => ?_⟩
      refine ⟨_, r, 97 + r.toNat, rfl, rfl, by rw [letters_len]; exact szl _ (by decide), letters_at r0 r1, ?_⟩
      refine ⟨_, by rw [kc D nDt]; exact l3, by rw [List.length_map, sizeLine_eq]; omega, cs ++ [97 + r.toNat], by simp [l1], ?_, ?_, ?_, ?_⟩
      · intro c hc
        rcases List.mem_append.mp hc with h | h
        · exact l2 c h
        · simp at h; omega
      · rw [upd_same, List.map_append]; rfl
      · obtain ⟨a, b, c, h, h'⟩ := Tc
        exact ⟨a, b, c, by rw [upd_ne nDt.symm]; exact h, h'⟩
      · intro b o nb e
        rw [upd_ne (ne_of_none e nD), kc b nb]
        exact l5 b o nb e
    · obtain ⟨cs, l1, l2, l3, l4, l5⟩ := hp
      refine ⟨D, rfl, cs.map (fun c => tx [c]), .inl (.inl (.inl (by rw [List.map_map]; exact l3))), ?_, ?_⟩
      · have : ∀ l : List Nat, ((l.map fun c => tx [c]).map (·.length)).sum = l.length := fun l => by
          induction l with
          | nil => rfl
          | cons c r ih => simp [tx_len] at ih ⊢; omega
        rw [this, List.length_map, tx_empty, tx_len]
        simp; omega
      · rw [join_signs]
        have xa : Ext t H Ha := x3.trans l5
        have lc : cs.length ≤ 7 := by omega
        clear l5 x3 x1 T1' T3 k3 k1 T1 hT
        simp [tSeq, tAsg, tIf, tIfS, tVar, tC, tOp, tUn, rI, rI0, rU, tCB, tCons, tNil, tLst, tTup, tRet, gName, gCons, gNil, gSub, rSetL, tTest, tB, tNot, tAnd, tOr, tAndV, tOrV, tNotV, tNext, tDrop, tCall, tCallK, gKbV, tSl, tNoPart, tPart, tPar, rEq, rNe, tLc_eq, tFor_eq, iRng1, L2.start, cxOf, Cx.nox, StX.tStar, tPar3, tx_len]
        refine ⟨szl _ (by omega), t, cs.length + 1, n + 2 + ln.toNat, rfl, l4, by omega, by omega, by omega, fun at_ H4 at0 at1 T4 k4 => ⟨szl _ (by decide), fun p4 n4 => ?_⟩⟩
        have T4' := T4.new (o := .lst [V.int 1, V.int 7, V.int 25]) n4
        have p4t := ntp T4 n4
        refine ⟨t, 3, _, rfl, T4', by omega, by decide, by decide, fun sx H5 sx0 sx1 T5 k5 => ?_⟩
        have e5 : H5 p4 = some (.lst [V.int 1, V.int 7, V.int 25]) := by rw [k5 p4 p4t]; exact upd_same
        have x5 : Ext t H H5 := fun b o nb e => by
          have e1 := xa b o nb e
          rw [k5 b nb, upd_ne (fun z => by rw [z] at e1; rw [← k4 p4 p4t, n4] at e1; cases e1), k4 b nb]
          exact e1
        refine ixLH e5 (atI3 (w := sx.toNat) (by omega) (by omega)) (fun p np => ?_)
        have npt : p ≠ t := ntp T5 np
        obtain ⟨st, est, hst⟩ : ∃ st : Nat, (if sx.toNat = 0 then V.int 1 else if sx.toNat = 1 then V.int 7 else V.int 25) = V.int (st : Nat) ∧ (st = 1 ∨ st = 7 ∨ st = 25) := by
          split
          · exact ⟨1, rfl, .inl rfl⟩
          · split
            · exact ⟨7, rfl, .inr (.inl rfl)⟩
            · exact ⟨25, rfl, .inr (.inr rfl)⟩
        rw [est]
        obtain ⟨shN, rfl⟩ : ∃ k : Nat, sh = (k : Int) := ⟨sh.toNat, by omega⟩
        obtain ⟨a, rfl⟩ : ∃ k : Nat, at_ = (k : Int) := ⟨at_.toNat, by omega⟩
        have pn0 : H p = none := by
          cases e : H p with
          | none => rfl
          | some o => rw [x5 p o npt e] at np; cases np
        refine ⟨_, _, _, ⟨rfl, rfl, rfl⟩, a, rfl, ⟨_, rfl, by rw [tx_len]; exact szl _ (by omega), a, rfl, ⟨_, rfl, by rw [tx_len]; exact szl _ (by omega), _, _, ⟨rfl, rfl⟩, by omega, ?_⟩⟩⟩
        rw [cutS_to, cutS_from]
        generalize hw : (if cs.drop a = [] then 0 else (shN + a + cs.length) % 3) = w
        have hw3 : w < 3 := by rw [← hw]; split <;> omega
        have hwt : w ≠ 0 → cs.drop a ≠ [] := fun h0 z => h0 (by rw [← hw, if_pos z])
        refine frK walk_range (Pnames t p H (n + 20) m cs shN a st w) ⟨none, none, none, rfl, upd_same, ?_, ?_⟩ (fun _ _ _ _ _ => trivial) (fun i x σ Hc Hd hi hp hy => ?_) (fun σ Hc hp => ?_)
        · exact (T5.new np).mono (by omega)
        · exact x5.trans (Ext.new np)
        · obtain ⟨rfl, rfl⟩ := hy
          obtain ⟨y3, y11, y12, rfl, e1, e2, e3⟩ := hp
          simp [tSeq, tAsg, tIf, tIfS, tVar, tC, tOp, tUn, rI, rI0, rU, tCB, tCons, tNil, tLst, tTup, tRet, gName, gCons, gNil, gSub, rSetL, tTest, tB, tNot, tAnd, tOr, tAndV, tOrV, tNotV, tNext, tDrop, tCall, tCallK, gKbV, tSl, tNoPart, tPart, tPar, rEq, rNe, tLc_eq, tFor_eq, iRng1, L2.start, cxOf, Cx.nox, StX.tStar]
          refine ⟨by rw [tx_len]; exact szl _ (by omega), rfl, ?_⟩
          have hd2 : CDivW (i : Int) 2 := wide_div (by decide) (b := 5) (by decide) (by decide) (by decide)
          have s3 : 3 ≤ sizeLine := szl _ (by decide)
          obtain ⟨wi, ewi, hor⟩ : ∃ wi : Int, wi = (w : Int) ∧ ((cs.drop a = [] ∧ wi = 0) ∨ (cs.drop a ≠ [] ∧ wi = ((shN : Int) + a + ((tx cs).length : Nat)) % 3)) := by
            by_cases hz : cs.drop a = []
            · exact ⟨0, by rw [← hw, if_pos hz]; rfl, .inl ⟨hz, rfl⟩⟩
            · exact ⟨_, by rw [← hw, if_neg hz, tx_len]; omega, .inr ⟨hz, rfl⟩⟩
          rcases hor with ⟨hz, ez⟩ | ⟨hz, ez⟩
          · refine .inl ⟨by rw [hz]; rfl, .inr (by decide), hd2, s3, ?_⟩
            intro p6 n6
            have np6 : p6 ≠ p := fun z => by rw [z, e1] at n6; cases n6
            have li := nmIdx_lt (w := w) (k := i) (by omega)
            refine ixLH upd_same (atI3 (w := w) (ez.symm.trans ewi) hw3) ⟨((nmIdx w i : Nat) : Int), idxV w i, .inl (by omega), _, _, _, rfl, rfl, by rw [letters_len]; exact szl _ (by decide), letters_at (Int.emod_nonneg _ (by decide)) (Int.emod_lt_of_pos _ (by decide)), ?_⟩
            have T6 := e2.new (o := .lst [V.int i, V.int ((i : Int) / 2), V.int i]) n6
            have e6 : (upd Hd p6 (.lst [V.int i, V.int ((i : Int) / 2), V.int i])) p = _ := (upd_ne np6.symm).trans e1
            have x6 : Ext t H (upd Hd p6 (.lst [V.int i, V.int ((i : Int) / 2), V.int i])) := e3.trans (Ext.new n6)
            generalize upd Hd p6 (.lst [V.int i, V.int ((i : Int) / 2), V.int i]) = H6 at T6 e6 x6
            simp [tSeq, tAsg, tIf, tIfS, tVar, tC, tOp, tUn, rI, rI0, rU, tCB, tCons, tNil, tLst, tTup, tRet, gName, gCons, gNil, gSub, rSetL, tTest, tB, tNot, tAnd, tOr, tAndV, tOrV, tNotV, tNext, tDrop, tCall, tCallK, gKbV, tSl, tNoPart, tPart, tPar, rEq, rNe, tLc_eq, tFor_eq, iRng1, L2.start, cxOf, Cx.nox, StX.tStar, tBM, rRepStr, rSlS, rAppend, tx_len]
            have ec : (((shN : Int) + (st : Int) * ((nmIdx w i : Nat) : Int)) % 26).toNat = (shN + st * nmIdx w i) % 26 := by
              rw [← Int.natCast_mul, ← Int.natCast_add]
              omega
            have ecut : cutS (tx (cs.drop a)) none (some ((i : Int) % (((cs.length - a : Nat) : Int) + 1))) = tx ((cs.drop a).take (i % ((cs.drop a).length + 1))) := by
              rw [← cutS_to, List.length_drop]
              congr 2
            rw [ec, ecut, show (⟨#[97 + (shN + st * nmIdx w i) % 26]⟩ : Str) = tx [97 + (shN + st * nmIdx w i) % 26] from rfl, tx_app]
            refine ⟨.inl ⟨rfl, _, .inl (.inl e6)⟩, by rw [tx_len]; exact szl _ (by simp; omega), by omega, by omega, by rw [sizeLine_eq]; omega, s3, fun p7 n7 => ?_⟩
            have np7 : p7 ≠ p := fun z => by rw [z, e6] at n7; cases n7
            have ltl := nmTail_len (w := w) (k := i) (tail := cs.drop a)
            rw [List.length_drop] at ltl
            refine ixLH upd_same (atI3 (w := w) (ez.symm.trans ewi) hw3) ⟨_, tailV w i _, by rw [tx_len, tx_len, List.length_append, List.length_take]; exact szl _ (by simp; omega), _, (upd_ne np7.symm).trans e6, by rw [List.length_map, List.length_range, sizeLine_eq]; omega, _, _, _, rfl, ?_, ?_, ?_⟩
            · rw [upd_same, List.range_succ, List.map_append, tx_app, List.append_assoc]; rfl
            · obtain ⟨b1, b2, b3, h, h'⟩ := T6.new (o := .lst [V.str (tx (cs.drop a)), V.str (if (i : Int) % 2 < 1 then Str.empty else tx (cs.drop a)), V.str (tx ((cs.drop a).take (i % ((cs.drop a).length + 1))))]) n7
              exact ⟨b1, b2, b3, by rw [upd_ne npt.symm]; exact h, h'⟩
            · intro b o nb e
              have eb := x6 b o nb e
              rw [upd_ne (fun z => by rw [z, pn0] at e; cases e), upd_ne (ne_of_none eb n7)]
              exact eb
          · refine .inr ⟨fun z => hz (tx_inj z), .inr (by decide), hd2, s3, ?_⟩
            intro p6 n6
            have np6 : p6 ≠ p := fun z => by rw [z, e1] at n6; cases n6
            have li := nmIdx_lt (w := w) (k := i) (by omega)
            refine ixLH upd_same (atI3 (w := w) (ez.symm.trans ewi) hw3) ⟨((nmIdx w i : Nat) : Int), idxV w i, .inl (by omega), _, _, _, rfl, rfl, by rw [letters_len]; exact szl _ (by decide), letters_at (Int.emod_nonneg _ (by decide)) (Int.emod_lt_of_pos _ (by decide)), ?_⟩
            have T6 := e2.new (o := .lst [V.int i, V.int ((i : Int) / 2), V.int i]) n6
            have e6 : (upd Hd p6 (.lst [V.int i, V.int ((i : Int) / 2), V.int i])) p = _ := (upd_ne np6.symm).trans e1
            have x6 : Ext t H (upd Hd p6 (.lst [V.int i, V.int ((i : Int) / 2), V.int i])) := e3.trans (Ext.new n6)
            generalize upd Hd p6 (.lst [V.int i, V.int ((i : Int) / 2), V.int i]) = H6 at T6 e6 x6
            simp [tSeq, tAsg, tIf, tIfS, tVar, tC, tOp, tUn, rI, rI0, rU, tCB, tCons, tNil, tLst, tTup, tRet, gName, gCons, gNil, gSub, rSetL, tTest, tB, tNot, tAnd, tOr, tAndV, tOrV, tNotV, tNext, tDrop, tCall, tCallK, gKbV, tSl, tNoPart, tPart, tPar, rEq, rNe, tLc_eq, tFor_eq, iRng1, L2.start, cxOf, Cx.nox, StX.tStar, tBM, rRepStr, rSlS, rAppend, tx_len]
            have ec : (((shN : Int) + (st : Int) * ((nmIdx w i : Nat) : Int)) % 26).toNat = (shN + st * nmIdx w i) % 26 := by
              rw [← Int.natCast_mul, ← Int.natCast_add]
              omega
            have ecut : cutS (tx (cs.drop a)) none (some ((i : Int) % (((cs.length - a : Nat) : Int) + 1))) = tx ((cs.drop a).take (i % ((cs.drop a).length + 1))) := by
              rw [← cutS_to, List.length_drop]
              congr 2
            rw [ec, ecut, show (⟨#[97 + (shN + st * nmIdx w i) % 26]⟩ : Str) = tx [97 + (shN + st * nmIdx w i) % 26] from rfl, tx_app]
            refine ⟨.inl ⟨rfl, _, .inl (.inl e6)⟩, by rw [tx_len]; exact szl _ (by simp; omega), by omega, by omega, by rw [sizeLine_eq]; omega, s3, fun p7 n7 => ?_⟩
            have np7 : p7 ≠ p := fun z => by rw [z, e6] at n7; cases n7
            have ltl := nmTail_len (w := w) (k := i) (tail := cs.drop a)
            rw [List.length_drop] at ltl
            refine ixLH upd_same (atI3 (w := w) (by rw [tx_len] at ez; exact ez.symm.trans ewi) hw3) ⟨_, tailV w i _, by rw [tx_len, tx_len, List.length_append, List.length_take]; exact szl _ (by simp; omega), _, (upd_ne np7.symm).trans e6, by rw [List.length_map, List.length_range, sizeLine_eq]; omega, _, _, _, rfl, ?_, ?_, ?_⟩
            · rw [upd_same, List.range_succ, List.map_append, tx_app, List.append_assoc]; rfl
            · obtain ⟨b1, b2, b3, h, h'⟩ := T6.new (o := .lst [V.str (tx (cs.drop a)), V.str (if (i : Int) % 2 < 1 then Str.empty else tx (cs.drop a)), V.str (tx ((cs.drop a).take (i % ((cs.drop a).length + 1))))]) n7
              exact ⟨b1, b2, b3, by rw [upd_ne npt.symm]; exact h, h'⟩
            · intro b o nb e
              have eb := x6 b o nb e
              rw [upd_ne (fun z => by rw [z, pn0] at e; cases e), upd_ne (ne_of_none eb n7)]
              exact eb
        · obtain ⟨y3, y11, y12, rfl, e1, e2, e3⟩ := hp
          simp [tSeq, tAsg, tIf, tIfS, tVar, tC, tOp, tUn, rI, rI0, rU, tCB, tCons, tNil, tLst, tTup, tRet, gName, gCons, gNil, gSub, rSetL, tTest, tB, tNot, tAnd, tOr, tAndV, tOrV, tNotV, tNext, tDrop, tCall, tCallK, gKbV, tSl, tNoPart, tPart, tPar, rEq, rNe, tLc_eq, tFor_eq, iRng1, L2.start, cxOf, Cx.nox, StX.tStar]
          refine q ((List.range m).map fun k => tx (nm shN st w (cs.take a) (cs.drop a) k)) p Hc (by simp) ?_ ?_ pn0 e2 e3 (by rw [e1, List.map_map]; rfl)
          · refine nodup_map List.nodup_range ?_
            intro i hi j hj e
            rw [List.mem_range] at hi hj
            exact nm_inj hst hwt (by omega) (by omega) (tx_inj e)
          · intro z hz
            obtain ⟨k, hk, rfl⟩ := List.mem_map.mp hz
            have l1 := nmTail_len (w := w) (k := k) (tail := cs.drop a)
            rw [List.length_drop] at l1
            refine ⟨?_, ?_, ?_⟩
            · rw [tx_len, nm, List.length_append, List.length_cons]; omega
            · rw [tx_len, nm, List.length_append, List.length_cons, List.length_take]; omega
            · rw [tx_cps, nm]
              intro c hc
              rcases List.mem_append.mp hc with h | h
              · exact l2 c (List.mem_of_mem_take h)
              · rcases List.mem_cons.mp h with rfl | h
                · omega
                · exact l2 c (List.mem_of_mem_drop (nmTail_sub c h))
end
theorem sc__law_part : FnScope ["_law_tape_here", "_law_some", "_law_many", "_law_left", "_law_k"] ["_law_tape_here", "_law_some", "_law_many"] (defScope s__law_part) := ⟨rfl, rfl, rfl, by decide +kernel, rfl, by decide +kernel, by decide +kernel⟩
section
variable {P : Program} {w : World} {K : PySem.W.Frag} {mg : Str → Option Value} {base : Heap}
def sp__law_part (K : PySem.W.Frag) : Sp := fun vs H Q _ => ∃ (t a : Addr) (xs : List V) (m n : Nat), vs = [.ref t, .ref a, .int m] ∧ TapeAt H t n ∧ n ≤ 90000000 ∧ (SqL K H a xs ∨ SqT K H a xs) ∧ xs.length ≤ 1000 ∧ m ≤ xs.length ∧
  ∀ (ys rest : List V) (p : Addr) (H' : Hp), (ys ++ rest).Perm xs → ys.length = m → H p = none → TapeAt H' t (n + m) → Ext t H H' → H' p = some (.lst ys) → Q (.ref p) H'
def Ppart (H : Hp) (t l : Addr) (xs : List V) (n : Nat) (D : Addr) (i : Nat) (H' : Hp) : Prop := ∃ ys left : List V, ys.length = i ∧ (ys ++ left).Perm xs ∧ H' D = some (.lst ys) ∧ H' l = some (.lst left) ∧ TapeAt H' t (n + i) ∧ Ext t H H' ∧ D ≠ l ∧ D ≠ t ∧ l ≠ t ∧ H D = none ∧ H l = none
theorem ok__law_part (T : Txt K mg) : FnOk P w K mg base CX0 2 T.f__law_part T.fd__law_part ["_law_tape_here", "_law_some", "_law_many"] (sp__law_part K) := by
  refine T.F__law_part.ok sc__law_part (fun vs H Q E h => ?_) (fun cdv A outer s H vs Q E hr h => ?_)
  · obtain ⟨t, a, xs, m, n, rfl, _⟩ := h
    rfl
  · obtain ⟨t, a, xs, m, n, rfl, hT, hn, hS, hx, hm, q⟩ := h
    refine ⟨_, (pss_cons (ps_set (i := 3) sc__law_part.nd rfl (by first | exact Or.inl rfl | exact Or.inr rfl) (pe_callTy call_list_of (by rfl) T.m_list (by decide +kernel) (pa_cons (pv 1) pa_nil)))
      (pss_one (ps_ret (pe_lc (own := [("_law_k", 4)]) (g := (gName 4)) (tt := tYes) (te := (tBM K "list" rPopAt (tVar 3) (tCons (tCall (sp__law_draw K) [] E0 (tCons (tVar 0) (tCons (tCB (rLenQ K) (tCons (tVar 3) tNil)) tNil))) tNil))) (by rfl) sc__law_part.nd (pi_range1 (by rfl) T.m_range (pa_cons (pv 2) pa_nil)) (blkOk_by (own := [("_law_k", 4)]) (N := ["_law_tape_here", "_law_some", "_law_many", "_law_left", "_law_k"]) (sc := defScope s__law_part) (by decide +kernel)) (fun _ _ _ _ _ => (pg_name (i := 4) sc__law_part.nd rfl (by first | exact Or.inl rfl | exact Or.inr rfl))) (fun _ _ _ _ _ => pts_nil) (fun _ _ _ _ _ => (pe_bm PySem.F.plainAttrs_list PySem.F.slot_list_pop PySem.F.type_list_pop mt_popAt (pv 3) (pa_cons (pe_call (ok__law_draw T) (hr.mono (by decide)) (by rfl) T.g__law_draw T.F__law_draw.kp T.b__law_draw .nil pass0 (pa_cons (pv 0) (pa_cons (pe_callB call_len_seq (by rfl) T.m_len (by decide +kernel) (pa_cons (pv 3) pa_nil)) pa_nil))) pa_nil))))))), ?_⟩
    simp [tSeq, tAsg, tIf, tIfS, tVar, tC, tOp, tUn, rI, rI0, rU, tCB, tCons, tNil, tLst, tTup, tRet, gName, gCons, gNil, gSub, rSetL, tTest, tB, tNot, tAnd, tOr, tAndV, tOrV, tNotV, tNext, tDrop, tCall, tCallK, gKbV, tSl, tNoPart, tPart, tPar, rEq, rNe, tLc_eq, tFor_eq, iRng1, L2.start, cxOf, Cx.nox, StX.tStar]
    refine ⟨xs, hS, fun l nl => ⟨by omega, ?_⟩⟩
    have ntp : ∀ {X : Hp} {q : Addr} {j : Nat}, TapeAt X t j → X q = none → q ≠ t := fun h e z => by
      obtain ⟨a, b, c, h, _⟩ := h
      rw [z, h] at e; cases e
    have lt := ntp hT nl
    have T0 := hT.new (o := .lst xs) nl
    refine lcK (walk_range (lo := 0) (n := m)) (Ppart H t l xs n) (fun D nD => ?_) (fun _ _ _ _ _ => trivial) (fun D i x Ha Hb nD hi hp hy => ?_) (fun D Ha nD hp => ?_)
    · have nDl : D ≠ l := fun z => by rw [z, upd_same] at nD; cases nD
      have nDH : H D = none := by rw [upd_ne nDl] at nD; exact nD
      exact ⟨[], xs, rfl, .refl _, upd_same, by rw [upd_ne nDl.symm, upd_same], T0.new nD, (Ext.new nl).trans (Ext.new nD), nDl, ntp hT nDH, lt, nDH, nl⟩
    · obtain ⟨rfl, rfl⟩ := hy
      obtain ⟨ys, left, l1, l2, l3, l4, l5, l6, l7, l8, l9, l10, l11⟩ := hp
      have ll : ys.length + left.length = xs.length := by rw [← List.length_append]; exact l2.length_eq
      simp [tSeq, tAsg, tIf, tIfS, tVar, tC, tOp, tUn, rI, rI0, rU, tCB, tCons, tNil, tLst, tTup, tRet, gName, gCons, gNil, gSub, rSetL, tTest, tB, tNot, tAnd, tOr, tAndV, tOrV, tNotV, tNext, tDrop, tCall, tCallK, gKbV, tSl, tNoPart, tPart, tPar, rEq, rNe, tLc_eq, tFor_eq, iRng1, L2.start, cxOf, Cx.nox, StX.tStar, wipe, tYes, tBM, rLenQ]
      refine ⟨.inl ⟨rfl, _, .inl (.inl l4)⟩, left, .inl (.inl (.inl l4)), t, left.length, n + i, rfl, l5, by omega, by omega, by omega, fun r Hc r0 r1 Tc kc => ?_⟩
      have hr : r.toNat < left.length := by omega
      have e1 : Hc l = some (.lst left) := by rw [kc l l9]; exact l4
      have e2 : Hc D = some (.lst ys) := by rw [kc D l8]; exact l3
      refine ⟨l, left, r, r.toNat, left[r.toNat], rfl, rfl, e1, by omega, by omega, ?_, List.getElem?_eq_getElem hr, ?_⟩
      · exact (ixN_seq (ixN_ok (by omega) hr)).1
      · refine ⟨ys, by rw [upd_ne l7]; exact e2, by rw [sizeLine_eq]; omega, ys ++ [left[r.toNat]], left.eraseIdx r.toNat, by simp [l1], ?_, upd_same, by rw [upd_ne l7.symm, upd_same], ?_, ?_, l7, l8, l9, l10, l11⟩
        · rw [List.append_assoc]
          exact ((List.Perm.append_left ys (erase_perm left _ hr)).trans l2)
        · obtain ⟨a, b, c, h, h'⟩ := Tc
          exact ⟨a, b, c, by rw [upd_ne l8.symm, upd_ne l9.symm]; exact h, h'⟩
        · intro b o nb e
          rw [upd_ne (ne_of_none e l10), upd_ne (ne_of_none e l11), kc b nb]
          exact l6 b o nb e
    · obtain ⟨ys, left, l1, l2, l3, l4, l5, l6, l7, l8, l9, l10, l11⟩ := hp
      exact q ys left D Ha l2 l1 l10 l5 l6 l3
end
theorem sc__law_same : FnScope ["_law_found", "_law_due", "_law_one", "_law_other"] ["_law_found", "_law_due"] (defScope s__law_same) := ⟨rfl, rfl, rfl, by decide +kernel, rfl, by decide +kernel, by decide +kernel⟩
section
variable {P : Program} {w : World} {K : PySem.W.Frag} {mg : Str → Option Value} {base : Heap}
def sp__law_same (K : PySem.W.Frag) : Nat → Sp
  | 0 => fun _ _ _ _ => False
  | n + 1 => fun vs H Q _ => ∃ (x y : V) (d : PyData), vs = [x, y] ∧ Dp K H x d ∧ Dp K H y d ∧ Deep n d ∧ ∀ H', Same H H' → Q (.bl true) H'
def Psame (H : Hp) (D : Addr) (i : Nat) (H' : Hp) : Prop := Same H H' ∧ H' D = some (.lst (List.replicate i (V.bl true)))
theorem ok__law_same (T : Txt K mg) : ∀ n, FnOk P w K mg base CX0 n T.f__law_same T.fd__law_same ["_law_found", "_law_due"] (sp__law_same K n)
  | 0 => ⟨fun _ _ _ _ h => h.elim, fun _ _ _ _ _ _ _ _ _ _ _ _ _ h => h.elim⟩
  | n + 1 => by
    have ih := ok__law_same T n
    refine T.F__law_same.ok sc__law_same (fun vs H Q E h => ?_) (fun cdv A outer s H vs Q E hr h => ?_)
    · obtain ⟨x, y, d, rfl, _⟩ := h
      rfl
    · obtain ⟨x, y, d, rfl, hx, hy, hd, q⟩ := h
      refine ⟨_, (pss_cons (ps_if (pt_val (pe_callB call_isiT (by rfl) T.m_isinstance (by decide +kernel) (pa_cons (pv 1) (pa_cons (pe_tup (pa_cons (pe_bltn (v := .ty "list") (by rfl) T.m_list (by decide +kernel) rfl) (pa_cons (pe_bltn (v := .ty "tuple") (by rfl) T.m_tuple (by decide +kernel) rfl) pa_nil))) pa_nil)))) (pss_cons (ps_if (PW.pt (pw_or (pt_cmpR op_ne (pe_callB call_isi (by rfl) T.m_isinstance (by decide +kernel) (pa_cons (pv 0) (pa_cons (pe_bltn (v := .ty "list") (by rfl) T.m_list (by decide +kernel) rfl) pa_nil))) (pe_callB call_isi (by rfl) T.m_isinstance (by decide +kernel) (pa_cons (pv 1) (pa_cons (pe_bltn (v := .ty "list") (by rfl) T.m_list (by decide +kernel) rfl) pa_nil))) (nomark _)) (pw_or1 (pt_cmpR op_ne (pe_callB call_isi (by rfl) T.m_isinstance (by decide +kernel) (pa_cons (pv 0) (pa_cons (pe_bltn (v := .ty "tuple") (by rfl) T.m_tuple (by decide +kernel) rfl) pa_nil))) (pe_callB call_isi (by rfl) T.m_isinstance (by decide +kernel) (pa_cons (pv 1) (pa_cons (pe_bltn (v := .ty "tuple") (by rfl) T.m_tuple (by decide +kernel) rfl) pa_nil))) (nomark _))))) (pss_one (ps_ret pe_bl)) pss_nil)
      (pss_one (ps_ret (pe_and (pe_cmpR op_eq (pe_callB call_len (by rfl) T.m_len (by decide +kernel) (pa_cons (pv 0) pa_nil)) (pe_callB call_len (by rfl) T.m_len (by decide +kernel) (pa_cons (pv 1) pa_nil)) (nomark _)) (pe_one (pe_callB (cr_all rfl) (by rfl) T.m_all (by decide +kernel) (pa_cons (pe_lc (own := [("_law_one", 2), ("_law_other", 3)]) (g := (gTup K 2 (gCons (gName 2) (gCons (gName 3) gNil)))) (tt := tYes) (te := (tCall (sp__law_same K n) [] E0 (tCons (tVar 2) (tCons (tVar 3) tNil)))) (by rfl) sc__law_same.nd (pi_zipA (by rfl) T.m_zip (pa_cons (pv 0) (pa_cons (pv 1) pa_nil))) (blkOk_by (own := [("_law_one", 2), ("_law_other", 3)]) (N := ["_law_found", "_law_due", "_law_one", "_law_other"]) (sc := defScope s__law_same) (by decide +kernel)) (fun _ _ _ _ _ => (pg_tup rfl (pgs_cons (pg_name (i := 2) sc__law_same.nd rfl (by first | exact Or.inl rfl | exact Or.inr rfl)) (pgs_cons (pg_name (i := 3) sc__law_same.nd rfl (by first | exact Or.inl rfl | exact Or.inr rfl)) pgs_nil)))) (fun _ _ _ _ _ => pts_nil) (fun _ _ _ _ _ => (pe_call ih hr (by rfl) T.g__law_same T.F__law_same.kp T.b__law_same .nil pass0 (pa_cons (pv 2) (pa_cons (pv 3) pa_nil))))) pa_nil))))))) pss_nil)
      (pss_cons (ps_if (PW.pt (pw_or (pt_cmpR op_isN (pv 1) pe_non (nomark _)) (pw_or1 (pt_val (pe_callB call_isiT (by rfl) T.m_isinstance (by decide +kernel) (pa_cons (pv 1) (pa_cons (pe_tup (pa_cons (pe_bltn (v := .ty "str") (by rfl) T.m_str (by decide +kernel) rfl) (pa_cons (pe_bltn (v := .ty "bool") (by rfl) T.m_bool (by decide +kernel) rfl) pa_nil))) pa_nil))))))) (pss_one (ps_ret (pe_and (pe_cmpR op_eq (pe_callB call_isi (by rfl) T.m_isinstance (by decide +kernel) (pa_cons (pv 0) (pa_cons (pe_bltn (v := .ty "bool") (by rfl) T.m_bool (by decide +kernel) rfl) pa_nil))) (pe_callB call_isi (by rfl) T.m_isinstance (by decide +kernel) (pa_cons (pv 1) (pa_cons (pe_bltn (v := .ty "bool") (by rfl) T.m_bool (by decide +kernel) rfl) pa_nil))) (nomark _)) (pe_one (pe_cmpR op_eq (pv 0) (pv 1) (nomark _)))))) pss_nil)
      (pss_one (ps_ret (pe_and (pe_callB call_isi (by rfl) T.m_isinstance (by decide +kernel) (pa_cons (pv 0) (pa_cons (pe_bltn (v := .ty "int") (by rfl) T.m_int (by decide +kernel) rfl) pa_nil))) (pe_and (pe_not (pe_callB call_isi (by rfl) T.m_isinstance (by decide +kernel) (pa_cons (pv 0) (pa_cons (pe_bltn (v := .ty "bool") (by rfl) T.m_bool (by decide +kernel) rfl) pa_nil)))) (pe_one (pe_cmpR op_eq (pv 0) (pv 1) (nomark _))))))))), ?_⟩
      simp [tSeq, tAsg, tIf, tIfS, tVar, tC, tOp, tUn, rI, rI0, rU, tCB, tCons, tNil, tLst, tTup, tRet, gName, gCons, gNil, gSub, rSetL, tTest, tB, tNot, tAnd, tOr, tAndV, tOrV, tNotV, tNext, tDrop, tCall, tCallK, gKbV, tSl, tNoPart, tPart, tPar, rEq, rNe, tLc_eq, tFor_eq, iRng1, L2.start, cxOf, Cx.nox, StX.tStar]
      have s2 : 2 ≤ sizeLine := by rw [sizeLine_eq]; decide
      refine ⟨s2, fun p np => isi2 upd_same (Dp.same (Same.new np) hy) (kb_lst d) (kb_tpl d) ?_⟩
      have sp := Same.new (o := .tup [V.ty "list", V.ty "tuple"]) np
      have hx1 := Dp.same sp hx
      have hy1 := Dp.same sp hy
      generalize upd H p (.tup [V.ty "list", V.ty "tuple"]) = H1 at sp hx1 hy1
      clear np hx hy
      cases d with
      | none =>
        cases hx1; cases hy1
        refine .inl ⟨rfl, ?_⟩
        rw [if_pos rfl]
        exact isi1 (b := false) .non kb_NoneType_bool (isi1 (b := false) .non kb_NoneType_bool ⟨rfl, by rw [if_pos rfl]; exact ⟨rfl, by rw [decide_eq_true rfl]; exact q _ sp⟩⟩)
      | bool b =>
        cases hx1; cases hy1
        refine .inl ⟨rfl, ?_⟩
        rw [if_neg (by intro z; cases z)]
        refine ⟨s2, fun p2 np2 => isi2 upd_same (.bl b) kb_bool_str kb_bool_bool (.inr ⟨rfl, ?_⟩)⟩
        exact isi1 (.bl b) kb_bool_bool (isi1 (.bl b) kb_bool_bool ⟨rfl, by rw [if_pos rfl]; exact ⟨rfl, by rw [decide_eq_true rfl]; exact q _ (sp.trans (Same.new np2))⟩⟩)
      | str z =>
        cases hx1; cases hy1
        refine .inl ⟨rfl, ?_⟩
        rw [if_neg (by intro z; cases z)]
        refine ⟨s2, fun p2 np2 => isi2 upd_same (.str z) kb_str_str kb_str_bool (.inr ⟨rfl, ?_⟩)⟩
        exact isi1 (.str z) kb_str_bool (isi1 (.str z) kb_str_bool ⟨rfl, by rw [if_pos rfl]; exact ⟨rfl, by rw [decide_eq_true rfl]; exact q _ (sp.trans (Same.new np2))⟩⟩)
      | int i =>
        cases hx1; cases hy1
        refine .inl ⟨rfl, ?_⟩
        rw [if_neg (by intro z; cases z)]
        refine ⟨s2, fun p2 np2 => isi2 upd_same (.int i) kb_int_str kb_int_bool (.inl ⟨rfl, ?_⟩)⟩
        exact isi1 (.int i) kb_int_int (.inr ⟨rfl, isi1 (.int i) kb_int_bool (.inl ⟨rfl, rfl, by rw [decide_eq_true rfl]; exact q _ (sp.trans (Same.new np2))⟩)⟩)
      | dict kvs => cases hx1
      | list ds =>
        refine .inr ⟨rfl, ?_⟩
        refine isi1 hx1 kb_list_list (isi1 hy1 kb_list_list ⟨rfl, .inl ⟨rfl, isi1 hx1 kb_list_tuple (isi1 hy1 kb_list_tuple ⟨rfl, .inl ⟨rfl, ?_⟩⟩)⟩⟩)
        cases hx1 with
        | @lst a xs _ sa da =>
        cases hy1 with
        | @lst b ys _ sb db =>
        have lx := DpAll.len da
        have ly := DpAll.len db
        refine ⟨xs.length, .inl ⟨xs, sa, rfl⟩, ys.length, .inl ⟨ys, sb, rfl⟩, rfl, ?_⟩
        rw [if_pos (by rw [lx, ly])]
        refine ⟨.ref a, rfl, .ref b, rfl, a, b, xs, ys, rfl, .inl ⟨sa, sb, ?_⟩⟩
        cases n with
        | zero => exact hd.elim
        | succ n =>
        obtain ⟨hd1, hd2⟩ := hd
        refine lcK (walk_zip (xs := xs) (ys := ys) (n := xs.length) (by omega)) (Psame H1) (fun D nD => ⟨Same.new nD, upd_same⟩) (fun D i H' _ h => ⟨h.1.seq sa, h.1.seq sb⟩) (fun D i v Ha Hb nD hi hp hyy => ?_) (fun D Ha nD hp => ?_)
        · obtain ⟨T1, u, v, rfl, nT, rfl, eu, ev⟩ := hyy
          obtain ⟨du, e1, h1⟩ := DpAll.at da eu
          obtain ⟨dv, e2, h2⟩ := DpAll.at db ev
          rw [e1] at e2; cases e2
          refine gTup2 (.inl (.inl upd_same)) ?_
          simp [tSeq, tAsg, tIf, tIfS, tVar, tC, tOp, tUn, rI, rI0, rU, tCB, tCons, tNil, tLst, tTup, tRet, gName, gCons, gNil, gSub, rSetL, tTest, tB, tNot, tAnd, tOr, tAndV, tOrV, tNotV, tNext, tDrop, tCall, tCallK, gKbV, tSl, tNoPart, tPart, tPar, rEq, rNe, tLc_eq, tFor_eq, iRng1, L2.start, cxOf, Cx.nox, StX.tStar, wipe, tYes]
          have sm := hp.1.trans (Same.new (o := .tup [u, v]) nT)
          refine ⟨u, v, du, rfl, Dp.same sm h1, Dp.same sm h2, hd2 _ (List.mem_of_getElem? e1), fun H' s' => ⟨_, s' _ _ (Same.new nT _ _ hp.2), by rw [List.length_replicate, sizeLine_eq]; omega, ?_, ?_⟩⟩
          · exact fun b o e => by rw [upd_ne (ne_of_none e nD)]; exact s' _ _ (sm _ _ e)
          · rw [upd_same]; simp [List.replicate_succ']
        · refine ⟨D, List.replicate xs.length true, rfl, .inl (.inl ?_), ?_⟩
          · rw [hp.2, List.map_replicate]
          · rw [show (List.replicate xs.length true).all id = true by simp]
            exact q _ (sp.trans hp.1)
      | tuple ds =>
        refine .inr ⟨rfl, ?_⟩
        refine isi1 hx1 kb_tuple_list (isi1 hy1 kb_tuple_list ⟨rfl, .inl ⟨rfl, isi1 hx1 kb_tuple_tuple (isi1 hy1 kb_tuple_tuple ⟨rfl, .inl ⟨rfl, ?_⟩⟩)⟩⟩)
        cases hx1 with
        | @tup a xs _ sa da =>
        cases hy1 with
        | @tup b ys _ sb db =>
        have lx := DpAll.len da
        have ly := DpAll.len db
        refine ⟨xs.length, .inr ⟨xs, sa, rfl⟩, ys.length, .inr ⟨ys, sb, rfl⟩, rfl, ?_⟩
        rw [if_pos (by rw [lx, ly])]
        refine ⟨.ref a, rfl, .ref b, rfl, a, b, xs, ys, rfl, .inr ⟨sa, sb, ?_⟩⟩
        cases n with
        | zero => exact hd.elim
        | succ n =>
        obtain ⟨hd1, hd2⟩ := hd
        refine lcK (walk_zipT (xs := xs) (ys := ys) (n := xs.length) (by omega)) (Psame H1) (fun D nD => ⟨Same.new nD, upd_same⟩) (fun D i H' _ h => ⟨Same.seqT h.1 sa, Same.seqT h.1 sb⟩) (fun D i v Ha Hb nD hi hp hyy => ?_) (fun D Ha nD hp => ?_)
        · obtain ⟨T1, u, v, rfl, nT, rfl, eu, ev⟩ := hyy
          obtain ⟨du, e1, h1⟩ := DpAll.at da eu
          obtain ⟨dv, e2, h2⟩ := DpAll.at db ev
          rw [e1] at e2; cases e2
          refine gTup2 (.inl (.inl upd_same)) ?_
          simp [tSeq, tAsg, tIf, tIfS, tVar, tC, tOp, tUn, rI, rI0, rU, tCB, tCons, tNil, tLst, tTup, tRet, gName, gCons, gNil, gSub, rSetL, tTest, tB, tNot, tAnd, tOr, tAndV, tOrV, tNotV, tNext, tDrop, tCall, tCallK, gKbV, tSl, tNoPart, tPart, tPar, rEq, rNe, tLc_eq, tFor_eq, iRng1, L2.start, cxOf, Cx.nox, StX.tStar, wipe, tYes]
          have sm := hp.1.trans (Same.new (o := .tup [u, v]) nT)
          refine ⟨u, v, du, rfl, Dp.same sm h1, Dp.same sm h2, hd2 _ (List.mem_of_getElem? e1), fun H' s' => ⟨_, s' _ _ (Same.new nT _ _ hp.2), by rw [List.length_replicate, sizeLine_eq]; omega, ?_, ?_⟩⟩
          · exact fun b o e => by rw [upd_ne (ne_of_none e nD)]; exact s' _ _ (sm _ _ e)
          · rw [upd_same]; simp [List.replicate_succ']
        · refine ⟨D, List.replicate xs.length true, rfl, .inl (.inl ?_), ?_⟩
          · rw [hp.2, List.map_replicate]
          · rw [show (List.replicate xs.length true).all id = true by simp]
            exact q _ (sp.trans hp.1)
end
theorem sc_others : FnScope ["fruits", "fruit", "each"] ["fruits", "fruit"] (defScope s_others) := ⟨rfl, rfl, rfl, by decide +kernel, rfl, by decide +kernel, by decide +kernel⟩
theorem sc_placed : FnScope ["liking", "fruit", "place", "rest"] ["liking", "fruit", "place"] (defScope s_placed) := ⟨rfl, rfl, rfl, by decide +kernel, rfl, by decide +kernel, by decide +kernel⟩
section
variable {P : Program} {w : World} {K : PySem.W.Frag} {mg : Str → Option Value} {base : Heap}
def sp_others (K : PySem.W.Frag) : Sp := fun vs H Q _ => ∃ (a : Addr) (zs : List Str) (f : Str), vs = [.ref a, .str f] ∧ (SqL K H a (zs.map V.str) ∨ SqT K H a (zs.map V.str)) ∧ zs.length ≤ 1000 ∧
  ∀ (q : Addr) (H' : Hp), H q = none → Same H H' → H' q = some (.lst ((oth zs f).map V.str)) → Q (.ref q) H'
def Poth (Hf : Hp) (ls : List Str) (f : Str) (D : Addr) (i : Nat) (H' : Hp) : Prop := Same Hf H' ∧ H' D = some (.lst ((oth (ls.take i) f).map V.str))
theorem ok_others (T : Txt K mg) : FnOk P w K mg base CX0 1 T.f_others T.fd_others ["fruits", "fruit"] (sp_others K) := by
  refine T.F_others.ok sc_others (fun vs H Q E h => ?_) (fun cdv A outer s H vs Q E hr h => ?_)
  · obtain ⟨a, zs, f, rfl, _⟩ := h
    rfl
  · obtain ⟨a, zs, f, rfl, hS, hl, q⟩ := h
    refine ⟨_, (pss_one (ps_ret (pe_lc (own := [("each", 2)]) (g := (gName 2)) (tt := (tTest (tOp rNe (tVar 2) (tVar 1)))) (te := (tVar 2)) (by rfl) sc_others.nd (pi_seq (pv 0)) (blkOk_by (own := [("each", 2)]) (N := ["fruits", "fruit", "each"]) (sc := defScope s_others) (by decide +kernel)) (fun _ _ _ _ _ => (pg_name (i := 2) sc_others.nd rfl (by first | exact Or.inl rfl | exact Or.inr rfl))) (fun _ _ _ _ _ => (pts_one (pt_cmpR op_ne (pv 2) (pv 1) (nomark _)))) (fun _ _ _ _ _ => (pv 2))))), ?_⟩
    simp [tSeq, tAsg, tIf, tIfS, tVar, tC, tOp, tUn, rI, rI0, rU, tCB, tCons, tNil, tLst, tTup, tRet, gName, gCons, gNil, gSub, rSetL, tTest, tB, tNot, tAnd, tOr, tAndV, tOrV, tNotV, tNext, tDrop, tCall, tCallK, gKbV, tSl, tNoPart, tPart, tPar, rEq, rNe, tLc_eq, tFor_eq, iRng1, L2.start, cxOf, Cx.nox, StX.tStar]
    refine walk_any rfl hS fun J wk => lcK wk (Poth H zs f) (fun D nD => ⟨Same.new nD, upd_same⟩) (fun D i' H' _ h => h.1) (fun D i' x' Ha' Hb' nD hi' hp' hy' => ?_) (fun D Hg nD hp' => ?_)
    · obtain ⟨rfl, hx'⟩ := hy'
      obtain ⟨z, ez, rfl⟩ := strs_at hx'
      simp [tSeq, tAsg, tIf, tIfS, tVar, tC, tOp, tUn, rI, rI0, rU, tCB, tCons, tNil, tLst, tTup, tRet, gName, gCons, gNil, gSub, rSetL, tTest, tB, tNot, tAnd, tOr, tAndV, tOrV, tNotV, tNext, tDrop, tCall, tCallK, gKbV, tSl, tNoPart, tPart, tPar, rEq, rNe, tLc_eq, tFor_eq, iRng1, L2.start, cxOf, Cx.nox, StX.tStar, wipe]
      have st := oth_step (f := f) ez
      have ol := oth_le (zs.take i') f
      rw [List.length_take] at ol
      refine ⟨rfl, ?_⟩
      by_cases c : z = f
      · rw [if_pos c] at st
        exact .inl ⟨c, hp'.1, by rw [st]; exact hp'.2⟩
      · rw [if_neg c] at st
        refine .inr ⟨c, _, hp'.2, by rw [List.length_map, sizeLine_eq]; omega, fun b o e => by rw [upd_ne (ne_of_none e nD)]; exact hp'.1 _ _ e, ?_⟩
        rw [upd_same, st, List.map_append]; rfl
    · obtain ⟨sg, hD⟩ := hp'
      rw [List.length_map, List.take_length] at hD
      exact q D Hg nD sg hD
def sp_placed (K : PySem.W.Frag) (C : Addr) : Sp := fun vs H Q E => ∃ (a : Addr) (zs : List Str) (f : Str) (p : Nat), vs = [.ref a, .str f, .int p] ∧ (SqL K H a (zs.map V.str) ∨ SqT K H a (zs.map V.str)) ∧ zs.length ≤ 100 ∧ zs.Nodup ∧
  (f ∈ zs → p < zs.length ∧ ∀ (q : Addr) (H' : Hp), H q = none → Same H H' → H' q = some (.tup ((plc zs f p).map V.str)) → Q (.ref q) H') ∧
  (f ∉ zs → ∀ (d : Addr) (H' : Hp), H d = none → Same H H' → H' d = some (.xd [("what", .str f)]) → E (.ref C) (some d) H')
theorem ok_placed (T : Txt K mg) : FnOk P w K mg base (L2.CX P w) 4 T.f_placed T.fd_placed ["liking", "fruit", "place"] (sp_placed K T.c_NoFruit) := by
  refine T.F_placed.okX sc_placed (fun vs H Q E h => ?_) (fun cdv A outer s H vs Q E hr h => ?_)
  · obtain ⟨a, zs, f, p, rfl, _⟩ := h
    rfl
  · obtain ⟨a, zs, f, p, rfl, hS, hl, nd, q1, q2⟩ := h
    refine ⟨_, (pss_cons (ps_if (pt_cmpR op_notIn_seq (pv 1) (pv 0) (by rfl)) (pss_one (ps_raiseWhat (nx := "NoFruit") rfl T.w_NoFruit hr (takes_of rfl rfl rfl rfl) (by exact (pa_cons (pv 1) pa_nil)) rfl)) pss_nil)
      (pss_cons (ps_set (i := 3) sc_placed.nd rfl (by first | exact Or.inl rfl | exact Or.inr rfl) (pe_call (ok_others T) (hr.mono (by decide)) (by rfl) T.g_others T.F_others.kp T.b_others .nil pass0 (pa_cons (pv 0) (pa_cons (pv 1) pa_nil))))
      (pss_one (ps_ret (pe_tup (StX.pa_star (pe_slice sl_list (pv 3) po_none (po_some (pv 2))) (pa_cons (pv 1) (StX.pa_star (pe_slice sl_list (pv 3) (po_some (pv 2)) po_none) pa_nil)))))))), ?_⟩
    simp [tSeq, tAsg, tIf, tIfS, tVar, tC, tOp, tUn, rI, rI0, rU, tCB, tCons, tNil, tLst, tTup, tRet, gName, gCons, gNil, gSub, rSetL, tTest, tB, tNot, tAnd, tOr, tAndV, tOrV, tNotV, tNext, tDrop, tCall, tCallK, gKbV, tSl, tNoPart, tPart, tPar, rEq, rNe, tLc_eq, tFor_eq, iRng1, L2.start, cxOf, Cx.nox, StX.tStar]
    have szl : ∀ k : Nat, k ≤ 1000 → k ≤ sizeLine := fun k h => by rw [sizeLine_eq]; omega
    refine ⟨a, _, rfl, hS, rfl, flat_strs zs, ?_⟩
    rw [inV_strs]
    by_cases hf : f ∈ zs
    · refine .inl ⟨by simp [hf], ?_⟩
      obtain ⟨hp, q1⟩ := q1 hf
      refine ⟨a, zs, f, rfl, hS, by omega, fun D Hg nD sg hD => ?_⟩
      have ol := oth_le zs f
      refine ⟨D, _, rfl, .inl (.inl hD), fun c1 n1 => ⟨c1, rfl, _, .inr (.inl (.inl upd_same)), ?_⟩⟩
      rw [cutV_to, ← List.map_take]
      have a1 := Same.new (o := .lst (((oth zs f).take p).map V.str)) n1
      refine ⟨D, _, rfl, .inl (.inl (a1 _ _ hD)), fun c2 n2 => ⟨c2, rfl, _, .inr (.inl (.inl upd_same)), ?_⟩⟩
      rw [cutV_from, ← List.map_drop]
      have a2 := Same.new (o := .lst (((oth zs f).drop p).map V.str)) n2
      refine ⟨szl _ (by simp; omega), fun c6 n6 => ?_⟩
      have all := sg.trans (a1.trans a2)
      refine q1 c6 _ (all.free n6) (all.trans (Same.new n6)) ?_
      rw [upd_same]
      unfold plc; simp
    · refine .inr ⟨by simp [hf], ?_⟩
      exact ⟨.str f, rfl, .str f, rfl, fun d nd' => q2 hf d _ nd' (Same.new nd') upd_same⟩
end
theorem sc__law_refused : FnScope ["_law_likings", "_law_fruits", "_law_caught", "error"] ["_law_likings", "_law_fruits"] (defScope s__law_refused) := ⟨rfl, rfl, rfl, by decide +kernel, rfl, by decide +kernel, by decide +kernel⟩
section
variable {P : Program} {w : World} {K : PySem.W.Frag} {mg : Str → Option Value} {base : Heap}
def sp__law_refused (K : PySem.W.Frag) : Sp := fun vs H Q _ => ∃ (a : Addr) (zs : List Str) (f : Str), vs = [.ref a, .str f] ∧ SqT K H a (zs.map V.str) ∧ zs.length ≤ 100 ∧ zs.Nodup ∧ f ∉ zs ∧ ∀ H', Same H H' → Q (.str f) H'
theorem ok__law_refused (T : Txt K mg) : FnOk P w K mg base CX0 6 T.f__law_refused T.fd__law_refused ["_law_likings", "_law_fruits"] (sp__law_refused K) := by
  refine T.F__law_refused.ok sc__law_refused (fun vs H Q E h => ?_) (fun cdv A outer s H vs Q E hr h => ?_)
  · obtain ⟨a, zs, f, rfl, _⟩ := h
    rfl
  · obtain ⟨a, zs, f, rfl, hS, hl, nd, nf, q⟩ := h
    refine ⟨_, (pss_cons (ps_set (i := 2) sc__law_refused.nd rfl (by first | exact Or.inl rfl | exact Or.inr rfl) pe_non)
      (pss_cons (ps_try_held (i := 3) (tb := fun W => (tDrop (tCallS (sp_placed K T.c_NoFruit) (WE W) (tCons (tVar 0) (tCons (tVar 1) (tCons (tC (.int 0)) tNil)))))) (ts := fun a => tAsg (tVar 3) (gName 2)) (cs := [.ref T.c_NoFruit, .ref T.c_NoPlace]) rfl rfl sc__law_refused.nd rfl rfl rfl (by rw [sizeLine_eq]; simp) exmTup2 (fun a pn => (nm_cons rfl T.g_NoFruit (nm_cons rfl T.g_NoPlace nm_nil))) (fun W pn xe tk _ => (pss_one (ps_expr (by exact (pe_callS (ok_placed T) (hr.mono (by decide)) rfl T.g_placed T.F_placed.kp T.b_placed (fun σ => passAt tk σ) (by exact (pa_cons (pv 0) (pa_cons (pv 1) (pa_cons pe_int pa_nil))))))))) (fun a pn => (pss_one (ps_set (i := 2) sc__law_refused.nd rfl (by first | exact Or.inl rfl | exact Or.inr rfl) (pv 3)))))
      (pss_one (ps_ret (pe_ifExp (PW.pt (pw_and (pt_val (pe_callB call_isH (by rfl) T.m_isinstance (by decide +kernel) (pa_cons (pv 2) (pa_cons (pe_glob (v := .ref T.c_NoFruit) rfl T.g_NoFruit rfl) pa_nil)))) (pw_and1 (pt_val (pe_callB call_isH (by rfl) T.m_isinstance (by decide +kernel) (pa_cons (pv 2) (pa_cons (pe_bltn (v := .ty "LookupError") (by rfl) T.m_LookupError (by decide +kernel) rfl) pa_nil))))))) (pe_whatH (pv 2)) pe_non))))), ?_⟩
    simp [tSeq, tAsg, tIf, tIfS, tVar, tC, tOp, tUn, rI, rI0, rU, tCB, tCons, tNil, tLst, tTup, tRet, gName, gCons, gNil, gSub, rSetL, tTest, tB, tNot, tAnd, tOr, tAndV, tOrV, tNotV, tNext, tDrop, tCall, tCallK, gKbV, tSl, tNoPart, tPart, tPar, rEq, rNe, tLc_eq, tFor_eq, iRng1, L2.start, cxOf, Cx.nox, StX.tStar]
    refine ⟨.ref a, rfl, .str f, rfl, a, zs, f, 0, rfl, .inr hS, by omega, nd, fun h => absurd h nf, fun _ d H' nd' sH hd => ?_⟩
    refine ⟨T.c_NoFruit, d, rfl, rfl, by simp [PySem.W.exmAny, T.x_NoFruit_NoFruit, T.x_NoFruit_NoPlace], fun e ne => ?_⟩
    simp [tSeq, tAsg, tIf, tIfS, tVar, tC, tOp, tUn, rI, rI0, rU, tCB, tCons, tNil, tLst, tTup, tRet, gName, gCons, gNil, gSub, rSetL, tTest, tB, tNot, tAnd, tOr, tAndV, tOrV, tNotV, tNext, tDrop, tCall, tCallK, gKbV, tSl, tNoPart, tPart, tPar, rEq, rNe, tLc_eq, tFor_eq, iRng1, L2.start, cxOf, Cx.nox, StX.tStar, goneAt]
    have he : (upd H' e (ExH e T.c_NoFruit d)) e = some (ExH e T.c_NoFruit d) := upd_same
    have hd2 : (upd H' e (ExH e T.c_NoFruit d)) d = some (.xd [(("what" : Str), .str f)]) := by rw [upd_ne (ne_of_none hd ne)]; exact hd
    refine ⟨e, T.c_NoFruit, d, _, _, _, true, rfl, he, hd2, T.is_NoFruit, .own _, T.ki_NoFruit_NoFruit, .inr ⟨rfl, ?_⟩⟩
    refine ⟨e, T.c_NoFruit, d, _, _, _, true, rfl, he, hd2, T.is_NoFruit, .ty _, T.kt_NoFruit_LookupError, .inr ⟨rfl, ?_⟩⟩
    exact ⟨.ref e, rfl, e, T.c_NoFruit, d, .str f, rfl, he, hd2, T.is_NoFruit, T.w_NoFruit.noN, q _ (sH.trans (Same.new ne))⟩
end
theorem sc__law_right : FnScope ["_law_tape_here", "_law_turn", "_law_names_here", "_law_likings", "_law_fruits", "_law_spot", "_law_others", "_law_due", "_law_told", "_law_one", "_law_odd"] ["_law_tape_here"] (defScope s__law_right) := ⟨rfl, rfl, rfl, by decide +kernel, rfl, by decide +kernel, by decide +kernel⟩
section
variable {P : Program} {w : World} {K : PySem.W.Frag} {mg : Str → Option Value} {base : Heap}
def sp__law_right (K : PySem.W.Frag) : Sp := fun vs H Q _ => ∃ (t : Addr) (n : Nat), vs = [.ref t] ∧ TapeAt H t n ∧ n ≤ 80000000 ∧ ∀ H', Ext t H H' → Q (.bl true) H'
def Podd (Hf : Hp) (D : Addr) (i : Nat) (H' : Hp) : Prop := Same Hf H' ∧ H' D = some (.lst ((odds.take i).map V.str))
def Pr0 (t : Addr) (H0 : Hp) (n : Nat) (i : Nat) (σ : L2.St) (H' : Hp) : Prop := ∃ y1 y2 y3 y4 y5 y6 y7 y8 y9 y10 : Option V, σ = [some (.ref t), y1, y2, y3, y4, y5, y6, y7, y8, y9, y10] ∧ TapeAt H' t (n + 40 * i) ∧ Ext t H0 H'
def Pr1 (t p l : Addr) (H0 : Hp) (i : Nat) (σ : L2.St) (H' : Hp) : Prop := ∃ y1 y4 y5 y6 y7 y8 y9 y10 : Option V, σ = [some (.ref t), y1, some (.ref p), some (.ref l), y4, y5, y6, y7, y8, y9, y10] ∧ Same H0 H'
def Pr2 (t p l : Addr) (f : Str) (H0 : Hp) (i : Nat) (σ : L2.St) (H' : Hp) : Prop := ∃ y1 y5 y6 y7 y8 y9 y10 : Option V, σ = [some (.ref t), y1, some (.ref p), some (.ref l), some (.str f), y5, y6, y7, y8, y9, y10] ∧ Same H0 H'
theorem ok__law_right (T : Txt K mg) : FnOk P w K mg base CX0 8 T.f__law_right T.fd__law_right ["_law_tape_here"] (sp__law_right K) := by
  refine T.F__law_right.ok sc__law_right (fun vs H Q E h => ?_) (fun cdv A outer s H vs Q E hr h => ?_)
  · obtain ⟨t, n, rfl, _⟩ := h
    rfl
  · obtain ⟨t, n, rfl, hT, hn, q⟩ := h
    refine ⟨_, (pss_cons (ps_for PassesOwn.never rfl (pi_range1 (by rfl) T.m_range (pa_cons pe_int pa_nil)) (pg_name (i := 1) sc__law_right.nd rfl (by first | exact Or.inl rfl | exact Or.inr rfl))
      (pss_cons (ps_set (i := 2) sc__law_right.nd rfl (by first | exact Or.inl rfl | exact Or.inr rfl) (pe_call (ok__law_names T) (hr.mono (by decide)) (by rfl) T.g__law_names T.F__law_names.kp T.b__law_names .nil pass0 (pa_cons (pv 0) (pa_cons (pe_op op_add pe_int (pe_call (ok__law_draw T) (hr.mono (by decide)) (by rfl) T.g__law_draw T.F__law_draw.kp T.b__law_draw .nil pass0 (pa_cons (pv 0) (pa_cons pe_int pa_nil)))) pa_nil))))
      (pss_cons (ps_set (i := 3) sc__law_right.nd rfl (by first | exact Or.inl rfl | exact Or.inr rfl) (pe_callTy call_tuple_of (by rfl) T.m_tuple (by decide +kernel) (pa_cons (pe_call (ok__law_part T) (hr.mono (by decide)) (by rfl) T.g__law_part T.F__law_part.kp T.b__law_part .nil pass0 (pa_cons (pv 0) (pa_cons (pv 2) (pa_cons (pe_callB call_len_seq (by rfl) T.m_len (by decide +kernel) (pa_cons (pv 2) pa_nil)) pa_nil)))) pa_nil)))
      (pss_cons (ps_for PassesOwn.never rfl (pi_list (pv 2)) (pg_name (i := 4) sc__law_right.nd rfl (by first | exact Or.inl rfl | exact Or.inr rfl))
      (pss_one (ps_for PassesOwn.never rfl (pi_range1 (by rfl) T.m_range (pa_cons (pe_callB call_len_seq (by rfl) T.m_len (by decide +kernel) (pa_cons (pv 2) pa_nil)) pa_nil)) (pg_name (i := 5) sc__law_right.nd rfl (by first | exact Or.inl rfl | exact Or.inr rfl))
      (pss_cons (ps_setLc (i := 6) (own := [("_law_one", 9)]) (g := (gName 9)) (tt := (tTest (tOp rNe (tVar 9) (tVar 4)))) (te := (tVar 9)) (by rfl) sc__law_right.nd rfl rfl (sw_true rfl rfl rfl (by decide +kernel)) (pi_tup (pv 3)) (blkOk_by (own := [("_law_one", 9)]) (N := ["_law_tape_here", "_law_turn", "_law_names_here", "_law_likings", "_law_fruits", "_law_spot", "_law_others", "_law_due", "_law_told", "_law_one", "_law_odd"]) (sc := defScope s__law_right) (by decide +kernel)) (fun _ _ _ _ _ => (pg_name (i := 9) sc__law_right.nd rfl (by first | exact Or.inl rfl | exact Or.inr rfl))) (fun _ _ _ _ _ => (pts_one (pt_cmpR op_ne (pv 9) (pv 4) (nomark _)))) (fun _ _ _ _ _ => (pv 9)))
      (pss_cons (ps_set (i := 7) sc__law_right.nd rfl (by first | exact Or.inl rfl | exact Or.inr rfl) (pe_callTy call_tuple_of (by rfl) T.m_tuple (by decide +kernel) (pa_cons (pe_op op_cat (pe_op op_cat (pe_slice sl_list (pv 6) po_none (po_some (pv 5))) (pe_lst (pa_cons (pv 4) pa_nil))) (pe_slice sl_list (pv 6) (po_some (pv 5)) po_none)) pa_nil)))
      (pss_cons (ps_set (i := 8) sc__law_right.nd rfl (by first | exact Or.inl rfl | exact Or.inr rfl) (pe_lst (pa_cons (pe_call (ok_placed T) (hr.mono (by decide)) (by rfl) T.g_placed T.F_placed.kp T.b_placed .nil passF (pa_cons (pv 3) (pa_cons (pv 4) (pa_cons (pv 5) pa_nil)))) (pa_cons (pe_callK0 (ok_placed T) (hr.mono (by decide)) (by rfl) T.g_placed T.F_placed.kp T.kb_placed passF (pk_cons (pv 5) (pk_cons (pv 4) (pk_cons (pe_callTy call_list_of (by rfl) T.m_list (by decide +kernel) (pa_cons (pv 3) pa_nil)) pk_nil)))) pa_nil))))
      (pss_one (ps_if (pt_not (pt_val (pe_call (ok__law_same T 7) (hr.mono (by decide)) (by rfl) T.g__law_same T.F__law_same.kp T.b__law_same .nil pass0 (pa_cons (pv 8) (pa_cons (pe_lst (pa_cons (pv 7) (pa_cons (pv 7) pa_nil))) pa_nil))))) (pss_one (ps_ret pe_bl)) pss_nil))))))))
      (pss_cons (ps_if (pt_not (pt_val (pe_call (ok__law_same T 7) (hr.mono (by decide)) (by rfl) T.g__law_same T.F__law_same.kp T.b__law_same .nil pass0 (pa_cons (pe_lc (own := [("_law_odd", 10)]) (g := (gName 10)) (tt := tYes) (te := (tCall (sp__law_refused K) [] E0 (tCons (tVar 3) (tCons (tVar 10) tNil)))) (by rfl) sc__law_right.nd (pi_tup (pe_tup (pa_cons pe_str (pa_cons pe_str (pa_cons pe_str pa_nil))))) (blkOk_by (own := [("_law_odd", 10)]) (N := ["_law_tape_here", "_law_turn", "_law_names_here", "_law_likings", "_law_fruits", "_law_spot", "_law_others", "_law_due", "_law_told", "_law_one", "_law_odd"]) (sc := defScope s__law_right) (by decide +kernel)) (fun _ _ _ _ _ => (pg_name (i := 10) sc__law_right.nd rfl (by first | exact Or.inl rfl | exact Or.inr rfl))) (fun _ _ _ _ _ => pts_nil) (fun _ _ _ _ _ => (pe_call (ok__law_refused T) (hr.mono (by decide)) (by rfl) T.g__law_refused T.F__law_refused.kp T.b__law_refused .nil pass0 (pa_cons (pv 3) (pa_cons (pv 10) pa_nil))))) (pa_cons (pe_lst (pa_cons pe_str (pa_cons pe_str (pa_cons pe_str pa_nil)))) pa_nil))))) (pss_one (ps_ret pe_bl)) pss_nil)
      (pss_one (ps_if (pt_not (pt_val (pe_call (ok__law_same T 7) (hr.mono (by decide)) (by rfl) T.g__law_same T.F__law_same.kp T.b__law_same .nil pass0 (pa_cons (pe_call (ok_placed T) (hr.mono (by decide)) (by rfl) T.g_placed T.F_placed.kp T.b_placed .nil passF (pa_cons (pv 3) (pa_cons (pe_ix ix_tup (pv 3) (pe_un un_neg pe_int) (fun _ _ => rfl)) (pa_cons (pe_op op_sub (pe_callB call_len_seq (by rfl) T.m_len (by decide +kernel) (pa_cons (pv 2) pa_nil)) pe_int) pa_nil)))) (pa_cons (pv 3) pa_nil))))) (pss_one (ps_ret pe_bl)) pss_nil)))))))
      (pss_one (ps_ret pe_bl))), ?_⟩
    simp [tSeq, tAsg, tIf, tIfS, tVar, tC, tOp, tUn, rI, rI0, rU, tCB, tCons, tNil, tLst, tTup, tRet, gName, gCons, gNil, gSub, rSetL, tTest, tB, tNot, tAnd, tOr, tAndV, tOrV, tNotV, tNext, tDrop, tCall, tCallK, gKbV, tSl, tNoPart, tPart, tPar, rEq, rNe, tLc_eq, tFor_eq, iRng1, L2.start, cxOf, Cx.nox, StX.tStar]
    have ntp : ∀ {X : Hp} {q : Addr} {j : Nat}, TapeAt X t j → X q = none → q ≠ t := fun h e z => by
      obtain ⟨a, b, c, h, _⟩ := h
      rw [z, h] at e; cases e
    refine frK walk_range (Pr0 t H n) ⟨_, _, _, _, _, _, _, _, _, _, rfl, hT.mono (by omega), Ext.refl _ _⟩ (fun _ _ _ _ _ => trivial) (fun i x σ Ha Hb hi hp hy => ?_) (fun σ Ha hp => ?_)
    · obtain ⟨rfl, rfl⟩ := hy
      obtain ⟨y1, y2, y3, y4, y5, y6, y7, y8, y9, y10, rfl, e1, e2⟩ := hp
      simp [tSeq, tAsg, tIf, tIfS, tVar, tC, tOp, tUn, rI, rI0, rU, tCB, tCons, tNil, tLst, tTup, tRet, gName, gCons, gNil, gSub, rSetL, tTest, tB, tNot, tAnd, tOr, tAndV, tOrV, tNotV, tNext, tDrop, tCall, tCallK, gKbV, tSl, tNoPart, tPart, tPar, rEq, rNe, tLc_eq, tFor_eq, iRng1, L2.start, cxOf, Cx.nox, StX.tStar]
      refine ⟨t, 12, _, rfl, e1, by omega, by decide, by decide, fun r H1 r0 r1 T1 k1 => ?_⟩
      refine ⟨r, rfl, t, 1 + r.toNat, _, by simp; omega, T1, by omega, by omega, fun zs p H2 lz nz inz np T2 x2 hp2 => ?_⟩
      have npt := ntp T1 np
      refine ⟨p, rfl, _, .inl (.inl (.inl hp2)), t, p, _, zs.length, _, by rw [List.length_map], T2, by omega, .inl (.inl (.inl hp2)), by rw [List.length_map]; omega, by rw [List.length_map]; omega, fun ys rest lp H3 pm lys nlp T3 x3 hlp => ?_⟩
      have hrest : rest = [] := by
        have := pm.length_eq
        rw [List.length_append, List.length_map] at this
        exact List.length_eq_zero_iff.mp (by omega)
      subst hrest
      rw [List.append_nil] at pm
      obtain ⟨ls, rfl, pls⟩ := perm_strs pm
      have nls : ls.Nodup := nodup_perm pls nz
      have lls : ls.length = zs.length := pls.length_eq
      refine ⟨lp, rfl, _, .inl ⟨.inl (.inl hlp), fun l nl => ?_⟩⟩
      have hp3 : H3 p = some (.lst (zs.map V.str)) := x3 _ _ npt hp2
      have s4 := Same.new (o := .tup (ls.map V.str)) nl
      have T4 := T3.same s4
      have hp4 := s4 _ _ hp3
      have hl4 : (upd H3 l (.tup (ls.map V.str))) l = some (.tup (ls.map V.str)) := upd_same
      have x4 : Ext t H (upd H3 l (.tup (ls.map V.str))) := ((e2.trans (fun b o nb e => by rw [k1 b nb]; exact e)).trans x2).trans (x3.trans (Ext.of s4))
      generalize upd H3 l (.tup (ls.map V.str)) = H4 at s4 T4 hp4 hl4 x4
      refine ⟨.ref p, rfl, p, rfl, ⟨_, .inl (.inl hp4)⟩, frK (walk_list (xs := zs.map V.str)) (Pr1 t p l H4) ⟨_, _, _, _, _, _, _, _, rfl, Same.refl _⟩ (fun i σ H' _ h => ?_) (fun i x σ Hc Hd hi hp hy => ?_) (fun σ Hc hp => ?_)⟩
      · obtain ⟨_, _, _, _, _, _, _, _, _, h⟩ := h
        exact .inl (.inl (h _ _ hp4))
      · obtain ⟨rfl, hx⟩ := hy
        obtain ⟨f, ef, rfl⟩ := strs_at hx
        obtain ⟨z1, z4, z5, z6, z7, z8, z9, z10, rfl, s5⟩ := hp
        have fin : f ∈ ls := pls.mem_iff.mpr (List.mem_of_getElem? ef)
        simp [tSeq, tAsg, tIf, tIfS, tVar, tC, tOp, tUn, rI, rI0, rU, tCB, tCons, tNil, tLst, tTup, tRet, gName, gCons, gNil, gSub, rSetL, tTest, tB, tNot, tAnd, tOr, tAndV, tOrV, tNotV, tNext, tDrop, tCall, tCallK, gKbV, tSl, tNoPart, tPart, tPar, rEq, rNe, tLc_eq, tFor_eq, iRng1, L2.start, cxOf, Cx.nox, StX.tStar]
        refine ⟨_, .inl (.inl (.inl (s5 _ _ hp4))), by simp; omega, frK walk_range (Pr2 t p l f H4) ⟨_, _, _, _, _, _, _, rfl, s5⟩ (fun _ _ _ _ _ => trivial) (fun i2 x2 σ2 He Hf hi2 hp' hy2 => ?_) (fun σ2 He hp' => ?_)⟩
        · obtain ⟨rfl, rfl⟩ := hy2
          obtain ⟨w1, w5, w6, w7, w8, w9, w10, rfl, s6⟩ := hp'
          simp [tSeq, tAsg, tIf, tIfS, tVar, tC, tOp, tUn, rI, rI0, rU, tCB, tCons, tNil, tLst, tTup, tRet, gName, gCons, gNil, gSub, rSetL, tTest, tB, tNot, tAnd, tOr, tAndV, tOrV, tNotV, tNext, tDrop, tCall, tCallK, gKbV, tSl, tNoPart, tPart, tPar, rEq, rNe, tLc_eq, tFor_eq, iRng1, L2.start, cxOf, Cx.nox, StX.tStar]
          have szl : ∀ k : Nat, k ≤ 1000 → k ≤ sizeLine := fun k h => by rw [sizeLine_eq]; omega
          refine ⟨.ref l, rfl, l, rfl, ⟨_, .inl (.inl (s6 _ _ hl4))⟩, lcK (walk_tup (xs := ls.map V.str)) (Poth Hf ls f) (fun D nD => ⟨Same.new nD, upd_same⟩) (fun D i' H' _ h => .inl (.inl (h.1 _ _ (s6 _ _ hl4)))) (fun D i' x' Ha' Hb' nD hi' hp' hy' => ?_) (fun D Hg nD hp' => ?_)⟩
          · obtain ⟨rfl, hx'⟩ := hy'
            obtain ⟨z, ez, rfl⟩ := strs_at hx'
            simp [tSeq, tAsg, tIf, tIfS, tVar, tC, tOp, tUn, rI, rI0, rU, tCB, tCons, tNil, tLst, tTup, tRet, gName, gCons, gNil, gSub, rSetL, tTest, tB, tNot, tAnd, tOr, tAndV, tOrV, tNotV, tNext, tDrop, tCall, tCallK, gKbV, tSl, tNoPart, tPart, tPar, rEq, rNe, tLc_eq, tFor_eq, iRng1, L2.start, cxOf, Cx.nox, StX.tStar, wipe]
            have st := oth_step (f := f) ez
            have ol := oth_le (ls.take i') f
            rw [List.length_take] at ol
            refine ⟨rfl, ?_⟩
            by_cases c : z = f
            · rw [if_pos c] at st
              exact .inl ⟨c, hp'.1, by rw [st]; exact hp'.2⟩
            · rw [if_neg c] at st
              refine .inr ⟨c, _, hp'.2, by rw [List.length_map, sizeLine_eq]; omega, fun b o e => by rw [upd_ne (ne_of_none e nD)]; exact hp'.1 _ _ e, ?_⟩
              rw [upd_same, st, List.map_append]; rfl
          · obtain ⟨sg, hD⟩ := hp'
            rw [List.length_map, List.take_length] at hD
            have ol := oth_le ls f
            have o100 : ls.length ≤ 12 := by omega
            rw [List.length_map] at hi2
            refine ⟨D, _, rfl, .inl (.inl hD), fun c1 n1 => ⟨szl _ (by decide), fun c2 n2 => ?_⟩⟩
            rw [cutV_to, ← List.map_take] at n2 ⊢
            have a1 := Same.new (o := .lst (((oth ls f).take i2).map V.str)) n1
            have b1 : (upd Hg c1 (.lst (((oth ls f).take i2).map V.str))) c1 = _ := upd_same
            generalize upd Hg c1 (.lst (((oth ls f).take i2).map V.str)) = G1 at a1 b1 n2 ⊢
            have a2 := Same.new (o := .lst [V.str f]) n2
            have b2 : (upd G1 c2 (.lst [V.str f])) c2 = _ := upd_same
            generalize upd G1 c2 (.lst [V.str f]) = G2 at a2 b2 ⊢
            refine ⟨c1, c2, _, _, rfl, rfl, a2 _ _ b1, b2, szl _ (by simp; omega), fun c3 n3 => ?_⟩
            have a3 := Same.new (o := .lst (((oth ls f).take i2).map V.str ++ [V.str f])) n3
            have b3 : (upd G2 c3 (.lst (((oth ls f).take i2).map V.str ++ [V.str f]))) c3 = _ := upd_same
            generalize upd G2 c3 (.lst (((oth ls f).take i2).map V.str ++ [V.str f])) = G3 at a3 b3 ⊢
            refine ⟨D, _, rfl, .inl (.inl (a3 _ _ (a2 _ _ (a1 _ _ hD)))), fun c4 n4 => ?_⟩
            rw [cutV_from, ← List.map_drop]
            have a4 := Same.new (o := .lst (((oth ls f).drop i2).map V.str)) n4
            have b4 : (upd G3 c4 (.lst (((oth ls f).drop i2).map V.str))) c4 = _ := upd_same
            generalize upd G3 c4 (.lst (((oth ls f).drop i2).map V.str)) = G4 at a4 b4 ⊢
            refine ⟨c3, c4, _, _, rfl, rfl, a4 _ _ b3, b4, szl _ (by simp; omega), fun c5 n5 => ?_⟩
            rw [show ((oth ls f).take i2).map V.str ++ [V.str f] ++ ((oth ls f).drop i2).map V.str = (plc ls f i2).map V.str by unfold plc; simp]
            have a5 := Same.new (o := .lst ((plc ls f i2).map V.str)) n5
            have b5 : (upd G4 c5 (.lst ((plc ls f i2).map V.str))) c5 = _ := upd_same
            generalize upd G4 c5 (.lst ((plc ls f i2).map V.str)) = G5 at a5 b5 ⊢
            refine ⟨c5, rfl, _, .inl ⟨.inl (.inl b5), fun c6 n6 => ?_⟩⟩
            have a6 := Same.new (o := .tup ((plc ls f i2).map V.str)) n6
            have b6 : (upd G5 c6 (.tup ((plc ls f i2).map V.str))) c6 = _ := upd_same
            generalize upd G5 c6 (.tup ((plc ls f i2).map V.str)) = G6 at a6 b6 ⊢
            have s7 : Same H4 G6 := s6.trans (sg.trans (a1.trans (a2.trans (a3.trans (a4.trans (a5.trans a6))))))
            have hl7 := s7 _ _ hl4
            refine ⟨l, ls, f, i2, rfl, .inr (.inl (.inl hl7)), by omega, nls, fun _ => ⟨by omega, fun q1 G7 _ a7 b7 => ?_⟩, fun h => absurd fin h⟩
            refine ⟨_, .inr (.inl (.inl (a7 _ _ hl7))), fun c8 n8 => ?_⟩
            have a8 := Same.new (o := .lst (ls.map V.str)) n8
            have b8 : (upd G7 c8 (.lst (ls.map V.str))) c8 = _ := upd_same
            generalize upd G7 c8 (.lst (ls.map V.str)) = G8 at a8 b8 ⊢
            refine ⟨c8, ls, f, i2, rfl, .inl (.inl (.inl b8)), by omega, nls, fun _ => ⟨by omega, fun q2 G9 _ a9 b9 => ⟨szl _ (by decide), fun p9 n9 => ⟨szl _ (by decide), fun p10 n10 => ?_⟩⟩⟩, fun h => absurd fin h⟩
            have a10 := Same.new (o := .lst [V.ref q1, V.ref q2]) n9
            have b10 : (upd G9 p9 (.lst [V.ref q1, V.ref q2])) p9 = _ := upd_same
            generalize upd G9 p9 (.lst [V.ref q1, V.ref q2]) = G10 at a10 b10 n10 ⊢
            have a11 := Same.new (o := .lst [V.ref c6, V.ref c6]) n10
            have b11 : (upd G10 p10 (.lst [V.ref c6, V.ref c6])) p10 = _ := upd_same
            generalize upd G10 p10 (.lst [V.ref c6, V.ref c6]) = G11 at a11 b11 ⊢
            have d1 : Dp K G11 (V.ref q1) (.tuple ((plc ls f i2).map PyData.str)) := .tup (.inl (.inl (a11 _ _ (a10 _ _ (a9 _ _ (a8 _ _ b7)))))) (dp_strs _)
            have d2 : Dp K G11 (V.ref q2) (.tuple ((plc ls f i2).map PyData.str)) := .tup (.inl (.inl (a11 _ _ (a10 _ _ b9)))) (dp_strs _)
            have d3 : Dp K G11 (V.ref c6) (.tuple ((plc ls f i2).map PyData.str)) := .tup (.inl (.inl (a11 _ _ (a10 _ _ (a9 _ _ (a8 _ _ (a7 _ _ b6))))))) (dp_strs _)
            have pl : (plc ls f i2).length ≤ 1000 := by unfold plc; simp; omega
            have dd : Deep 5 (.tuple ((plc ls f i2).map PyData.str)) := ⟨by rw [List.length_map]; exact pl, deep_strs _ _⟩
            refine ⟨_, _, .list [.tuple ((plc ls f i2).map PyData.str), .tuple ((plc ls f i2).map PyData.str)], rfl, .lst (.inl (.inl (a11 _ _ b10))) (.cons d1 (.cons d2 .nil)), .lst (.inl (.inl b11)) (.cons d3 (.cons d3 .nil)), ⟨by simp, fun d hd => ?_⟩, fun G12 a12 => .inr ⟨rfl, ?_⟩⟩
            · simp at hd; subst hd; exact dd
            · exact ⟨_, _, _, _, _, _, _, rfl, s7.trans (a7.trans (a8.trans (a9.trans (a10.trans (a11.trans a12)))))⟩
        · obtain ⟨w1, w5, w6, w7, w8, w9, w10, rfl, s6⟩ := hp'
          exact ⟨_, _, _, _, _, _, _, _, rfl, s6⟩
      · obtain ⟨z1, z4, z5, z6, z7, z8, z9, z10, rfl, s5⟩ := hp
        simp [tSeq, tAsg, tIf, tIfS, tVar, tC, tOp, tUn, rI, rI0, rU, tCB, tCons, tNil, tLst, tTup, tRet, gName, gCons, gNil, gSub, rSetL, tTest, tB, tNot, tAnd, tOr, tAndV, tOrV, tNotV, tNext, tDrop, tCall, tCallK, gKbV, tSl, tNoPart, tPart, tPar, rEq, rNe, tLc_eq, tFor_eq, iRng1, L2.start, cxOf, Cx.nox, StX.tStar]
        have szl : ∀ k : Nat, k ≤ 1000 → k ≤ sizeLine := fun k h => by rw [sizeLine_eq]; omega
        have hl5 := s5 _ _ hl4
        refine ⟨szl _ (by decide), fun c1 n1 => ⟨c1, rfl, ⟨_, .inl (.inl upd_same)⟩, ?_⟩⟩
        have a1 := Same.new (o := .tup (odds.map V.str)) n1
        have b1 : (upd Hc c1 (.tup (odds.map V.str))) c1 = _ := upd_same
        change LcK _ _ _ _ _ _ (upd Hc c1 (.tup (odds.map V.str))) _
        generalize upd Hc c1 (.tup (odds.map V.str)) = G1 at a1 b1 ⊢
        refine lcK (walk_tup (xs := odds.map V.str)) (Podd G1) (fun D nD => ⟨Same.new nD, upd_same⟩) (fun D i' H' _ h => .inl (.inl (h.1 _ _ b1))) (fun D i' x' Ha' Hb' nD hi' hp' hy' => ?_) (fun D Hg nD hp' => ?_)
        · obtain ⟨rfl, hx'⟩ := hy'
          obtain ⟨z, ez, rfl⟩ := strs_at hx'
          simp [tSeq, tAsg, tIf, tIfS, tVar, tC, tOp, tUn, rI, rI0, rU, tCB, tCons, tNil, tLst, tTup, tRet, gName, gCons, gNil, gSub, rSetL, tTest, tB, tNot, tAnd, tOr, tAndV, tOrV, tNotV, tNext, tDrop, tCall, tCallK, gKbV, tSl, tNoPart, tPart, tPar, rEq, rNe, tLc_eq, tFor_eq, iRng1, L2.start, cxOf, Cx.nox, StX.tStar, wipe, tYes]
          have zno : z ∉ ls := fun h => odds_no z (List.mem_of_getElem? ez) (inz z (pls.mem_iff.mp h))
          refine ⟨l, ls, z, rfl, .inl (.inl (hp'.1 _ _ (a1 _ _ hl5))), by omega, nls, zno, fun H' sH => ⟨_, sH _ _ hp'.2, ?_, fun b o e => by rw [upd_ne (ne_of_none e nD)]; exact sH _ _ (hp'.1 _ _ e), ?_⟩⟩
          · rw [List.length_map, List.length_take, sizeLine_eq]
            have : odds.length = 3 := rfl
            omega
          · rw [upd_same, List.take_add_one, ez, List.map_append]; rfl
        · obtain ⟨sg, hD⟩ := hp'
          rw [List.length_map, List.take_length] at hD
          refine ⟨szl _ (by decide), fun c2 n2 => ?_⟩
          have a2 := Same.new (o := .lst (odds.map V.str)) n2
          have b2 : (upd Hg c2 (.lst (odds.map V.str))) c2 = _ := upd_same
          change sp__law_same K 7 _ (upd Hg c2 (.lst (odds.map V.str))) _ _
          generalize upd Hg c2 (.lst (odds.map V.str)) = G2 at a2 b2 ⊢
          refine ⟨_, _, .list (odds.map PyData.str), rfl, .lst (.inl (.inl (a2 _ _ hD))) (dp_strs _), .lst (.inl (.inl b2)) (dp_strs _), ⟨by decide, deep_strs _ _⟩, fun G3 a3 => .inr ⟨rfl, ?_⟩⟩
          have s8 := a1.trans (sg.trans (a2.trans a3))
          have hl8 := s8 _ _ hl5
          have hp8 := s8 _ _ (s5 _ _ hp4)
          obtain ⟨init, z, rfl⟩ : ∃ init z, ls = init ++ [z] := by
            rcases List.eq_nil_or_concat ls with e | ⟨i, z, e⟩
            · rw [e] at lls; simp at lls; omega
            · exact ⟨i, z, by rw [e, List.concat_eq_append]⟩
          have el : ((init ++ [z]).map V.str) = init.map V.str ++ [V.str z] := by simp
          refine ⟨l, _, -1, V.str z, rfl, rfl, .inl (.inl hl8), by rw [el]; exact atI_last _ _, _, .inl (.inl (.inl hp8)), ?_⟩
          have ez : (((zs.map V.str).length : Nat) : Int) - 1 = ((init.length : Nat) : Int) := by
            rw [List.length_map, ← lls, List.length_append]; simp
          rw [ez]
          refine ⟨l, init ++ [z], z, init.length, rfl, .inr (.inl (.inl hl8)), by omega, nls, fun _ => ⟨by simp, fun q1 G4 _ a4 b4 => ?_⟩, fun h => absurd (by simp) h⟩
          rw [plc_last nls] at b4
          refine ⟨_, _, .tuple ((init ++ [z]).map PyData.str), rfl, .tup (.inl (.inl b4)) (dp_strs _), .tup (.inl (.inl (a4 _ _ hl8))) (dp_strs _), ⟨by rw [List.length_map]; omega, deep_strs _ _⟩, fun G5 a5 => .inr ⟨rfl, ?_⟩⟩
          have s9 : Same H4 G5 := s5.trans (s8.trans (a4.trans a5))
          exact ⟨_, _, _, _, _, _, _, _, _, _, rfl, (T4.same s9).mono (by omega), x4.trans (Ext.of s9)⟩
    · obtain ⟨y1, y2, y3, y4, y5, y6, y7, y8, y9, y10, rfl, e1, e2⟩ := hp
      simp [tSeq, tAsg, tIf, tIfS, tVar, tC, tOp, tUn, rI, rI0, rU, tCB, tCons, tNil, tLst, tTup, tRet, gName, gCons, gNil, gSub, rSetL, tTest, tB, tNot, tAnd, tOr, tAndV, tOrV, tNotV, tNext, tDrop, tCall, tCallK, gKbV, tSl, tNoPart, tPart, tPar, rEq, rNe, tLc_eq, tFor_eq, iRng1, L2.start, cxOf, Cx.nox, StX.tStar]
      exact q _ e2
end
theorem sc_law : FnScope ["_law_script", "_law_cells", "_law_k"] ["_law_script"] (defScope s_law) := ⟨rfl, rfl, rfl, by decide +kernel, rfl, by decide +kernel, by decide +kernel⟩
section
variable {P : Program} {w : World} {K : PySem.W.Frag} {mg : Str → Option Value} {base : Heap}
def sp_law (K : PySem.W.Frag) : Sp := fun vs H Q _ => ∃ (a : Addr) (ns : List Int), vs = [.ref a] ∧ SqL K H a (ns.map V.int) ∧ ns.length ≤ 63 ∧ ∀ H', Q (.bl true) H'
def Plaw (c : Addr) (cs : List Int) (D : Addr) (i : Nat) (H' : Hp) : Prop := H' c = some (.lst (cs.map V.int)) ∧ H' D = some (.lst (List.replicate i (V.bl true)))
theorem ok_law (T : Txt K mg) : FnOk P w K mg base CX0 9 T.f_law T.fd_law ["_law_script"] (sp_law K) := by
  refine T.F_law.ok sc_law (fun vs H Q E h => ?_) (fun cdv A outer s H vs Q E hr h => ?_)
  · obtain ⟨a, ns, rfl, _⟩ := h
    rfl
  · obtain ⟨a, ns, rfl, hS, hlen, q⟩ := h
    refine ⟨_, (pss_cons (ps_set (i := 1) sc_law.nd rfl (by first | exact Or.inl rfl | exact Or.inr rfl) (pe_call (ok__law_folded T) (hr.mono (by decide)) (by rfl) T.g__law_folded T.F__law_folded.kp T.b__law_folded .nil pass0 (pa_cons (pv 0) (pa_cons pe_int pa_nil))))
      (pss_one (ps_ret (pe_callB (cr_all rfl) (by rfl) T.m_all (by decide +kernel) (pa_cons (pe_lc (own := [("_law_k", 2)]) (g := (gName 2)) (tt := tYes) (te := (tCall (sp__law_right K) [] E0 (tCons (tCall (sp__law_tape K) [] E0 (tCons (tVar 1) (tCons (tVar 2) tNil))) tNil))) (by rfl) sc_law.nd (pi_range1 (by rfl) T.m_range (pa_cons (pe_callB (call_max2 rfl) (by rfl) T.m_max (by decide +kernel) (pa_cons pe_int (pa_cons (pe_callB call_len_seq (by rfl) T.m_len (by decide +kernel) (pa_cons (pv 1) pa_nil)) pa_nil))) pa_nil)) (blkOk_by (own := [("_law_k", 2)]) (N := ["_law_script", "_law_cells", "_law_k"]) (sc := defScope s_law) (by decide +kernel)) (fun _ _ _ _ _ => (pg_name (i := 2) sc_law.nd rfl (by first | exact Or.inl rfl | exact Or.inr rfl))) (fun _ _ _ _ _ => pts_nil) (fun _ _ _ _ _ => (pe_call (ok__law_right T) (hr.mono (by decide)) (by rfl) T.g__law_right T.F__law_right.kp T.b__law_right .nil pass0 (pa_cons (pe_call (ok__law_tape T) (hr.mono (by decide)) (by rfl) T.g__law_tape T.F__law_tape.kp T.b__law_tape .nil pass0 (pa_cons (pv 1) (pa_cons (pv 2) pa_nil))) pa_nil)))) pa_nil))))), ?_⟩
    simp [tSeq, tAsg, tIf, tIfS, tVar, tC, tOp, tUn, rI, rI0, rU, tCB, tCons, tNil, tLst, tTup, tRet, gName, gCons, gNil, gSub, rSetL, tTest, tB, tNot, tAnd, tOr, tAndV, tOrV, tNotV, tNext, tDrop, tCall, tCallK, gKbV, tSl, tNoPart, tPart, tPar, rEq, rNe, tLc_eq, tFor_eq, iRng1, L2.start, cxOf, Cx.nox, StX.tStar]
    refine ⟨a, ns, 2, rfl, hS, hlen, by decide, by decide, fun c H1 cs lcs _ nc s1 hc => ?_⟩
    refine ⟨c, rfl, _, .inl (.inl (.inl hc)), 1, _, ⟨rfl, rfl⟩, ?_, ?_, ?_⟩
    · split <;> omega
    · split
      · rw [List.length_map]; omega
      · omega
    · generalize hn : (if (1 : Int) < ((cs.map V.int).length : Nat) then (((cs.map V.int).length : Nat) : Int) else 1).toNat = n
      have n2 : n ≤ 2 := by
        rw [← hn]
        rw [List.length_map]
        split <;> omega
      refine lcK (walk_range (lo := 0) (n := n)) (Plaw c cs) (fun D nD => ⟨by rw [upd_ne (ne_of_none hc nD)]; exact hc, upd_same⟩) (fun _ _ _ _ _ => trivial) (fun D i x Ha Hb nD hi hp hy => ?_) (fun D Ha nD hp => ?_)
      · obtain ⟨rfl, rfl⟩ := hy
        obtain ⟨e1, e2⟩ := hp
        simp [tSeq, tAsg, tIf, tIfS, tVar, tC, tOp, tUn, rI, rI0, rU, tCB, tCons, tNil, tLst, tTup, tRet, gName, gCons, gNil, gSub, rSetL, tTest, tB, tNot, tAnd, tOr, tAndV, tOrV, tNotV, tNext, tDrop, tCall, tCallK, gKbV, tSl, tNoPart, tPart, tPar, rEq, rNe, tLc_eq, tFor_eq, iRng1, L2.start, cxOf, Cx.nox, StX.tStar, wipe, tYes]
        refine ⟨c, cs, i, rfl, .inl (.inl e1), by omega, by omega, fun t nt H2 T2 k2 => ⟨t, 0, rfl, T2, by decide, fun H3 x3 => ?_⟩⟩
        have e1' : H3 c = some (.lst (cs.map V.int)) := x3 _ _ (ne_of_none e1 nt) (by rw [k2 _ (ne_of_none e1 nt)]; exact e1)
        have e2' : H3 D = some (.lst (List.replicate i (V.bl true))) := x3 _ _ (ne_of_none e2 nt) (by rw [k2 _ (ne_of_none e2 nt)]; exact e2)
        refine ⟨_, e2', by rw [List.length_replicate, sizeLine_eq]; omega, ?_, ?_⟩
        · rw [upd_ne (fun z => by rw [z] at hc; rw [hc] at nD; cases nD)]; exact e1'
        · rw [upd_same]; simp [List.replicate_succ']
      · refine ⟨D, List.replicate n true, rfl, .inl (.inl ?_), ?_⟩
        · rw [hp.2, List.map_replicate]
        · rw [show (List.replicate n true).all id = true by simp]
          exact q _
end
theorem rev_rel : ∀ {vs : List V} {us : List Value}, Vals vs us → Vals vs.reverse us.reverse
  | _, _, .nil => .nil
  | _, _, .cons r t => by
    rw [List.reverse_cons, List.reverse_cons]
    exact (rev_rel t).append (.cons r .nil)
theorem gKb_rel {vs zs : List V} {us ws : List Value} (h1 : Vals vs us) (h2 : Vals zs ws) : Vals (gKbV vs zs) (gKb us ws) := by
  cases h1 with
  | nil => exact rev_rel h2
  | cons r t => exact .nil
theorem all_mk {l : PySem.W.OpenLaw} {w : World} {K : PySem.W.Frag} {h : Heap} {mg : Str → Option Value} {fa f_others f_placed f__law_tape f__law_draw f__law_folded f__law_names f__law_part f__law_same f__law_refused f__law_right f_law c_NoFruit c_NoPlace : Addr} (X : K.In h) (G : h.Ns mainGlobals mg) (hfa : mg "law" = some (.ref fa))
    {od0 an0 od1 an1 od2 an2 od3 an3 od4 an4 od5 an5 od6 an6 od7 an7 od8 an8 od9 an9 od10 an10 : Option Addr} {sl0 sl1 sl2 sl3 sl4 sl5 sl6 sl7 sl8 sl9 sl10 : Array (Option Value)} {oc0 kV0 dc0 pm0 cd0 ct0 oc1 kV1 dc1 pm1 cd1 ct1 oc2 kV2 dc2 pm2 cd2 ct2 oc3 kV3 dc3 pm3 cd3 ct3 oc4 kV4 dc4 pm4 cd4 ct4 oc5 kV5 dc5 pm5 cd5 ct5 oc6 kV6 dc6 pm6 cd6 ct6 oc7 kV7 dc7 pm7 cd7 ct7 oc8 kV8 dc8 pm8 cd8 ct8 oc9 kV9 dc9 pm9 cd9 ct9 oc10 kV10 dc10 pm10 cd10 ct10 : Value}
    (a0 : PySem.W.nsIn K mainGlobals "others" = some (some (.ref f_others))) (l0 : K.lookup f_others = some ⟨oc0, od0, .func (PySem.W.fnOf "others" "others" (defArgs s_others) (defBody s_others) (defScope s_others) .none kV0 dc0 pm0 an0 cd0 ct0), sl0⟩) (c0 : PySem.W.codeIn K cd0 "others" = true) (k0 : PySem.W.keepIn K (.ref f_others) = true)
    (a1 : PySem.W.nsIn K mainGlobals "placed" = some (some (.ref f_placed))) (l1 : K.lookup f_placed = some ⟨oc1, od1, .func (PySem.W.fnOf "placed" "placed" (defArgs s_placed) (defBody s_placed) (defScope s_placed) .none kV1 dc1 pm1 an1 cd1 ct1), sl1⟩) (c1 : PySem.W.codeIn K cd1 "placed" = true) (k1 : PySem.W.keepIn K (.ref f_placed) = true)
    (a2 : PySem.W.nsIn K mainGlobals "_law_tape" = some (some (.ref f__law_tape))) (l2 : K.lookup f__law_tape = some ⟨oc2, od2, .func (PySem.W.fnOf "_law_tape" "_law_tape" (defArgs s__law_tape) (defBody s__law_tape) (defScope s__law_tape) .none kV2 dc2 pm2 an2 cd2 ct2), sl2⟩) (c2 : PySem.W.codeIn K cd2 "_law_tape" = true) (k2 : PySem.W.keepIn K (.ref f__law_tape) = true)
    (a3 : PySem.W.nsIn K mainGlobals "_law_draw" = some (some (.ref f__law_draw))) (l3 : K.lookup f__law_draw = some ⟨oc3, od3, .func (PySem.W.fnOf "_law_draw" "_law_draw" (defArgs s__law_draw) (defBody s__law_draw) (defScope s__law_draw) .none kV3 dc3 pm3 an3 cd3 ct3), sl3⟩) (c3 : PySem.W.codeIn K cd3 "_law_draw" = true) (k3 : PySem.W.keepIn K (.ref f__law_draw) = true)
    (a4 : PySem.W.nsIn K mainGlobals "_law_folded" = some (some (.ref f__law_folded))) (l4 : K.lookup f__law_folded = some ⟨oc4, od4, .func (PySem.W.fnOf "_law_folded" "_law_folded" (defArgs s__law_folded) (defBody s__law_folded) (defScope s__law_folded) .none kV4 dc4 pm4 an4 cd4 ct4), sl4⟩) (c4 : PySem.W.codeIn K cd4 "_law_folded" = true) (k4 : PySem.W.keepIn K (.ref f__law_folded) = true)
    (a5 : PySem.W.nsIn K mainGlobals "_law_names" = some (some (.ref f__law_names))) (l5 : K.lookup f__law_names = some ⟨oc5, od5, .func (PySem.W.fnOf "_law_names" "_law_names" (defArgs s__law_names) (defBody s__law_names) (defScope s__law_names) .none kV5 dc5 pm5 an5 cd5 ct5), sl5⟩) (c5 : PySem.W.codeIn K cd5 "_law_names" = true) (k5 : PySem.W.keepIn K (.ref f__law_names) = true)
    (a6 : PySem.W.nsIn K mainGlobals "_law_part" = some (some (.ref f__law_part))) (l6 : K.lookup f__law_part = some ⟨oc6, od6, .func (PySem.W.fnOf "_law_part" "_law_part" (defArgs s__law_part) (defBody s__law_part) (defScope s__law_part) .none kV6 dc6 pm6 an6 cd6 ct6), sl6⟩) (c6 : PySem.W.codeIn K cd6 "_law_part" = true) (k6 : PySem.W.keepIn K (.ref f__law_part) = true)
    (a7 : PySem.W.nsIn K mainGlobals "_law_same" = some (some (.ref f__law_same))) (l7 : K.lookup f__law_same = some ⟨oc7, od7, .func (PySem.W.fnOf "_law_same" "_law_same" (defArgs s__law_same) (defBody s__law_same) (defScope s__law_same) .none kV7 dc7 pm7 an7 cd7 ct7), sl7⟩) (c7 : PySem.W.codeIn K cd7 "_law_same" = true) (k7 : PySem.W.keepIn K (.ref f__law_same) = true)
    (a8 : PySem.W.nsIn K mainGlobals "_law_refused" = some (some (.ref f__law_refused))) (l8 : K.lookup f__law_refused = some ⟨oc8, od8, .func (PySem.W.fnOf "_law_refused" "_law_refused" (defArgs s__law_refused) (defBody s__law_refused) (defScope s__law_refused) .none kV8 dc8 pm8 an8 cd8 ct8), sl8⟩) (c8 : PySem.W.codeIn K cd8 "_law_refused" = true) (k8 : PySem.W.keepIn K (.ref f__law_refused) = true)
    (a9 : PySem.W.nsIn K mainGlobals "_law_right" = some (some (.ref f__law_right))) (l9 : K.lookup f__law_right = some ⟨oc9, od9, .func (PySem.W.fnOf "_law_right" "_law_right" (defArgs s__law_right) (defBody s__law_right) (defScope s__law_right) .none kV9 dc9 pm9 an9 cd9 ct9), sl9⟩) (c9 : PySem.W.codeIn K cd9 "_law_right" = true) (k9 : PySem.W.keepIn K (.ref f__law_right) = true)
    (a10 : PySem.W.nsIn K mainGlobals "law" = some (some (.ref f_law))) (l10 : K.lookup f_law = some ⟨oc10, od10, .func (PySem.W.fnOf "law" "law" (defArgs s_law) (defBody s_law) (defScope s_law) .none kV10 dc10 pm10 an10 cd10 ct10), sl10⟩) (c10 : PySem.W.codeIn K cd10 "law" = true) (k10 : PySem.W.keepIn K (.ref f_law) = true)
    (ac_NoFruit : PySem.W.nsIn K mainGlobals "NoFruit" = some (some (.ref c_NoFruit)))
    (ac_NoPlace : PySem.W.nsIn K mainGlobals "NoPlace" = some (some (.ref c_NoPlace)))
    (z_len : PySem.W.nsIn K mainGlobals "len" = some none)
    (z_abs : PySem.W.nsIn K mainGlobals "abs" = some none)
    (z_int : PySem.W.nsIn K mainGlobals "int" = some none)
    (z_list : PySem.W.nsIn K mainGlobals "list" = some none)
    (z_tuple : PySem.W.nsIn K mainGlobals "tuple" = some none)
    (z_all : PySem.W.nsIn K mainGlobals "all" = some none)
    (z_any : PySem.W.nsIn K mainGlobals "any" = some none)
    (z_isinstance : PySem.W.nsIn K mainGlobals "isinstance" = some none)
    (z_max : PySem.W.nsIn K mainGlobals "max" = some none)
    (z_min : PySem.W.nsIn K mainGlobals "min" = some none)
    (z_range : PySem.W.nsIn K mainGlobals "range" = some none)
    (z_enumerate : PySem.W.nsIn K mainGlobals "enumerate" = some none)
    (z_zip : PySem.W.nsIn K mainGlobals "zip" = some none)
    (z_str : PySem.W.nsIn K mainGlobals "str" = some none)
    (z_bool : PySem.W.nsIn K mainGlobals "bool" = some none)
    (z_LookupError : PySem.W.nsIn K mainGlobals "LookupError" = some none)
    (z_repr : PySem.W.nsIn K mainGlobals "repr" = some none)
    (z_sorted : PySem.W.nsIn K mainGlobals "sorted" = some none)
    (z_set : PySem.W.nsIn K mainGlobals "set" = some none)
    {nm_NoFruit q_NoFruit : Str} {N_NoFruit i_NoFruit : Addr} {bs_NoFruit sub_NoFruit : List Value} {sn_NoFruit : List Str} {ab_NoFruit : Bool} {col_NoFruit : Option Bool} {dd_NoFruit od_NoFruit an_NoFruit : Option Addr} {m0_NoFruit m1_NoFruit m2_NoFruit m3_NoFruit m5_NoFruit : Option Value} {sl_NoFruit : Array (Option Value)} {oc_NoFruit dc_NoFruit pm_NoFruit cd_NoFruit ct_NoFruit : Value}
    (xL_NoFruit : K.lookup c_NoFruit = some (excClassObj nm_NoFruit q_NoFruit c_NoFruit N_NoFruit bs_NoFruit [.type "LookupError", .type "Exception", .type "BaseException", .type "object"] true sn_NoFruit sub_NoFruit ab_NoFruit col_NoFruit dd_NoFruit m0_NoFruit m1_NoFruit m2_NoFruit m3_NoFruit m5_NoFruit "LookupError.__new__"))
    (sa_NoFruit : PySem.W.findIn K (.ref c_NoFruit) "__setattr__" = some (some (.builtin "object.__setattr__")))
    (ga_NoFruit : PySem.W.findIn K (.ref c_NoFruit) "__getattribute__" = some (some (.builtin "BaseException.__getattribute__")))
    (gg_NoFruit : PySem.W.findIn K (.ref c_NoFruit) "__getattr__" = some none)
    (nb_NoFruit : PySem.W.findIn K (.ref c_NoFruit) "what" = some none)
    (ai_NoFruit : PySem.W.findIn K (.ref c_NoFruit) "__init__" = some (some (.ref i_NoFruit)))
    (ti_NoFruit : PySem.W.typeIn K (.ref i_NoFruit) = some (.type "function"))
    (li_NoFruit : K.lookup i_NoFruit = some ⟨oc_NoFruit, od_NoFruit, .func (PySem.W.fnOf "__init__" "NoFruit.__init__" (PySem.WhatX.iA ⟨4, 17, 4, 21⟩ ⟨4, 23, 4, 27⟩) (PySem.WhatX.iB ⟨5, 8, 5, 12⟩ ⟨5, 8, 5, 17⟩ ⟨5, 20, 5, 24⟩ ⟨5, 8, 5, 24⟩) PySem.WhatX.iS .none .none dc_NoFruit pm_NoFruit an_NoFruit cd_NoFruit ct_NoFruit), sl_NoFruit⟩)
    (ci_NoFruit : PySem.W.codeIn K cd_NoFruit "NoFruit.__init__" = true)
    (kc_NoFruit : PySem.W.keepIn K (.ref c_NoFruit) = true)
    (ec_NoFruit : PySem.W.subIn K (.ref c_NoFruit) (.type "BaseException") = some true)
    (tc_NoFruit : PySem.W.typeIn K (.ref c_NoFruit) = some (.type "type"))
    (hc_NoFruit : PySem.W.hasDictIn K c_NoFruit = true)
    (ha_NoFruit : PySem.W.findIn K (.ref c_NoFruit) "__class__" = some (some (.builtin "object.__class__")))
    (hm_NoFruit : PySem.W.mroIn K c_NoFruit (.type "object") = some true)
    {nm_NoPlace q_NoPlace : Str} {N_NoPlace i_NoPlace : Addr} {bs_NoPlace sub_NoPlace : List Value} {sn_NoPlace : List Str} {ab_NoPlace : Bool} {col_NoPlace : Option Bool} {dd_NoPlace od_NoPlace an_NoPlace : Option Addr} {m0_NoPlace m1_NoPlace m2_NoPlace m3_NoPlace m5_NoPlace : Option Value} {sl_NoPlace : Array (Option Value)} {oc_NoPlace dc_NoPlace pm_NoPlace cd_NoPlace ct_NoPlace : Value}
    (xL_NoPlace : K.lookup c_NoPlace = some (excClassObj nm_NoPlace q_NoPlace c_NoPlace N_NoPlace bs_NoPlace [.type "LookupError", .type "Exception", .type "BaseException", .type "object"] true sn_NoPlace sub_NoPlace ab_NoPlace col_NoPlace dd_NoPlace m0_NoPlace m1_NoPlace m2_NoPlace m3_NoPlace m5_NoPlace "LookupError.__new__"))
    (sa_NoPlace : PySem.W.findIn K (.ref c_NoPlace) "__setattr__" = some (some (.builtin "object.__setattr__")))
    (ga_NoPlace : PySem.W.findIn K (.ref c_NoPlace) "__getattribute__" = some (some (.builtin "BaseException.__getattribute__")))
    (gg_NoPlace : PySem.W.findIn K (.ref c_NoPlace) "__getattr__" = some none)
    (nb_NoPlace : PySem.W.findIn K (.ref c_NoPlace) "what" = some none)
    (ai_NoPlace : PySem.W.findIn K (.ref c_NoPlace) "__init__" = some (some (.ref i_NoPlace)))
    (ti_NoPlace : PySem.W.typeIn K (.ref i_NoPlace) = some (.type "function"))
    (li_NoPlace : K.lookup i_NoPlace = some ⟨oc_NoPlace, od_NoPlace, .func (PySem.W.fnOf "__init__" "NoPlace.__init__" (PySem.WhatX.iA ⟨8, 17, 8, 21⟩ ⟨8, 23, 8, 27⟩) (PySem.WhatX.iB ⟨9, 8, 9, 12⟩ ⟨9, 8, 9, 17⟩ ⟨9, 20, 9, 24⟩ ⟨9, 8, 9, 24⟩) PySem.WhatX.iS .none .none dc_NoPlace pm_NoPlace an_NoPlace cd_NoPlace ct_NoPlace), sl_NoPlace⟩)
    (ci_NoPlace : PySem.W.codeIn K cd_NoPlace "NoPlace.__init__" = true)
    (kc_NoPlace : PySem.W.keepIn K (.ref c_NoPlace) = true)
    (ec_NoPlace : PySem.W.subIn K (.ref c_NoPlace) (.type "BaseException") = some true)
    (tc_NoPlace : PySem.W.typeIn K (.ref c_NoPlace) = some (.type "type"))
    (hc_NoPlace : PySem.W.hasDictIn K c_NoPlace = true)
    (ha_NoPlace : PySem.W.findIn K (.ref c_NoPlace) "__class__" = some (some (.builtin "object.__class__")))
    (hm_NoPlace : PySem.W.mroIn K c_NoPlace (.type "object") = some true)
    (hnD : PySem.W.specialIn K (.builtin "object.__class__") "__get__" = some (some (.builtin "getset_descriptor.__get__"))) (htD : PySem.W.takesIn K (.builtin "object.__class__") = some true)
    (s_NoFruit_NoFruit : PySem.W.subIn K (.ref c_NoFruit) (.ref c_NoFruit) = some true)
    (s_NoFruit_NoPlace : PySem.W.subIn K (.ref c_NoFruit) (.ref c_NoPlace) = some false)
    (s_NoPlace_NoPlace : PySem.W.subIn K (.ref c_NoPlace) (.ref c_NoPlace) = some true)
    (kt_NoFruit_LookupError : PySem.W.subIn K (.ref c_NoFruit) (.type "LookupError") = some true)
    : ∃ fd : FuncData, (∀ (s : Shared) (v : Value), BindsTo s fd ⟨[v], []⟩ [("_law_script", v)]) ∧ ∀ base : Heap, K.In base → base.Ns mainGlobals mg → FnOk l.prog w K mg base CX0 9 fa fd ["_law_script"] (sp_law K) := by
  have e := hfa.symm.trans (PySem.W.mg_of X G a10)
  cases e
  have F0 := fun_mk (st := s_others) l0 c0 k0
  have F1 := fun_mk (st := s_placed) l1 c1 k1
  have F2 := fun_mk (st := s__law_tape) l2 c2 k2
  have F3 := fun_mk (st := s__law_draw) l3 c3 k3
  have F4 := fun_mk (st := s__law_folded) l4 c4 k4
  have F5 := fun_mk (st := s__law_names) l5 c5 k5
  have F6 := fun_mk (st := s__law_part) l6 c6 k6
  have F7 := fun_mk (st := s__law_same) l7 c7 k7
  have F8 := fun_mk (st := s__law_refused) l8 c8 k8
  have F9 := fun_mk (st := s__law_right) l9 c9 k9
  have F10 := fun_mk (st := s_law) l10 c10 k10
  let T : Txt K mg := {
    f_others := f_others, fd_others := _, F_others := F0, b_others := F0.binds (ps := ["fruits", "fruit"]) fun _ _ _ _ _ _ us hl => (match us, hl with | [_, _], _ => rfl), g_others := PySem.W.mg_of X G a0,
    f_placed := f_placed, fd_placed := _, F_placed := F1, b_placed := F1.binds (ps := ["liking", "fruit", "place"]) fun _ _ _ _ _ _ us hl => (match us, hl with | [_, _, _], _ => rfl), g_placed := PySem.W.mg_of X G a1,
    f__law_tape := f__law_tape, fd__law_tape := _, F__law_tape := F2, b__law_tape := F2.binds (ps := ["_law_script", "_law_k"]) fun _ _ _ _ _ _ us hl => (match us, hl with | [_, _], _ => rfl), g__law_tape := PySem.W.mg_of X G a2,
    f__law_draw := f__law_draw, fd__law_draw := _, F__law_draw := F3, b__law_draw := F3.binds (ps := ["_law_tape_here", "_law_many"]) fun _ _ _ _ _ _ us hl => (match us, hl with | [_, _], _ => rfl), g__law_draw := PySem.W.mg_of X G a3,
    f__law_folded := f__law_folded, fd__law_folded := _, F__law_folded := F4, b__law_folded := F4.binds (ps := ["_law_script", "_law_many"]) fun _ _ _ _ _ _ us hl => (match us, hl with | [_, _], _ => rfl), g__law_folded := PySem.W.mg_of X G a4,
    f__law_names := f__law_names, fd__law_names := _, F__law_names := F5, b__law_names := F5.binds (ps := ["_law_tape_here", "_law_many"]) fun _ _ _ _ _ _ us hl => (match us, hl with | [_, _], _ => rfl), g__law_names := PySem.W.mg_of X G a5,
    f__law_part := f__law_part, fd__law_part := _, F__law_part := F6, b__law_part := F6.binds (ps := ["_law_tape_here", "_law_some", "_law_many"]) fun _ _ _ _ _ _ us hl => (match us, hl with | [_, _, _], _ => rfl), g__law_part := PySem.W.mg_of X G a6,
    f__law_same := f__law_same, fd__law_same := _, F__law_same := F7, b__law_same := F7.binds (ps := ["_law_found", "_law_due"]) fun _ _ _ _ _ _ us hl => (match us, hl with | [_, _], _ => rfl), g__law_same := PySem.W.mg_of X G a7,
    f__law_refused := f__law_refused, fd__law_refused := _, F__law_refused := F8, b__law_refused := F8.binds (ps := ["_law_likings", "_law_fruits"]) fun _ _ _ _ _ _ us hl => (match us, hl with | [_, _], _ => rfl), g__law_refused := PySem.W.mg_of X G a8,
    f__law_right := f__law_right, fd__law_right := _, F__law_right := F9, b__law_right := F9.binds (ps := ["_law_tape_here"]) fun _ _ _ _ _ _ us hl => (match us, hl with | [_], _ => rfl), g__law_right := PySem.W.mg_of X G a9,
    f_law := fa, fd_law := _, F_law := F10, b_law := F10.binds (ps := ["_law_script"]) fun _ _ _ _ _ _ us hl => (match us, hl with | [_], _ => rfl), g_law := PySem.W.mg_of X G a10,
    c_NoFruit := c_NoFruit, g_NoFruit := PySem.W.mg_of X G ac_NoFruit,
    c_NoPlace := c_NoPlace, g_NoPlace := PySem.W.mg_of X G ac_NoPlace,
    kb_placed := ⟨fun s us ws _ hl => (match us, hl with | [], hl => (match ws, (show ws.length = 3 by simpa [gKb] using hl) with | [_, _, _], _ => .of_eq rfl)), fun r1 r2 => gKb_rel r1 r2⟩,
    m_len := PySem.W.mg_none_of X G z_len, m_abs := PySem.W.mg_none_of X G z_abs, m_int := PySem.W.mg_none_of X G z_int, m_list := PySem.W.mg_none_of X G z_list, m_tuple := PySem.W.mg_none_of X G z_tuple, m_all := PySem.W.mg_none_of X G z_all, m_any := PySem.W.mg_none_of X G z_any, m_isinstance := PySem.W.mg_none_of X G z_isinstance, m_max := PySem.W.mg_none_of X G z_max, m_min := PySem.W.mg_none_of X G z_min, m_range := PySem.W.mg_none_of X G z_range, m_enumerate := PySem.W.mg_none_of X G z_enumerate, m_zip := PySem.W.mg_none_of X G z_zip, m_str := PySem.W.mg_none_of X G z_str, m_bool := PySem.W.mg_none_of X G z_bool, m_LookupError := PySem.W.mg_none_of X G z_LookupError, m_repr := PySem.W.mg_none_of X G z_repr, m_sorted := PySem.W.mg_none_of X G z_sorted, m_set := PySem.W.mg_none_of X G z_set,
    i_NoFruit := i_NoFruit, w_NoFruit := { gC := PySem.W.mg_of X G ac_NoFruit, cls := ⟨_, _, _, _, _, _, _, _, _, _, _, _, _, _, _, _, _, _, PySem.WhatX.under_LookupError, xL_NoFruit⟩, sa := sa_NoFruit, ga := ga_NoFruit, gg := gg_NoFruit, noN := nb_NoFruit, iC := ai_NoFruit, tC := ti_NoFruit, kC := kc_NoFruit, exC := ec_NoFruit, tyC := tc_NoFruit, hdC := hc_NoFruit, fn := ⟨_, _, _, _, _, _, _, _, _, _, _, _, _, _, _, li_NoFruit, ci_NoFruit⟩ }, is_NoFruit := ⟨ga_NoFruit, gg_NoFruit, ec_NoFruit, hc_NoFruit, ha_NoFruit, hnD, htD, hm_NoFruit⟩,
    i_NoPlace := i_NoPlace, w_NoPlace := { gC := PySem.W.mg_of X G ac_NoPlace, cls := ⟨_, _, _, _, _, _, _, _, _, _, _, _, _, _, _, _, _, _, PySem.WhatX.under_LookupError, xL_NoPlace⟩, sa := sa_NoPlace, ga := ga_NoPlace, gg := gg_NoPlace, noN := nb_NoPlace, iC := ai_NoPlace, tC := ti_NoPlace, kC := kc_NoPlace, exC := ec_NoPlace, tyC := tc_NoPlace, hdC := hc_NoPlace, fn := ⟨_, _, _, _, _, _, _, _, _, _, _, _, _, _, _, li_NoPlace, ci_NoPlace⟩ }, is_NoPlace := ⟨ga_NoPlace, gg_NoPlace, ec_NoPlace, hc_NoPlace, ha_NoPlace, hnD, htD, hm_NoPlace⟩,
    x_NoFruit_NoFruit := exm_own ec_NoFruit hc_NoFruit tc_NoFruit s_NoFruit_NoFruit, ki_NoFruit_NoFruit := kit_own ec_NoFruit hc_NoFruit tc_NoFruit s_NoFruit_NoFruit s_NoFruit_NoFruit,
    x_NoFruit_NoPlace := exm_own ec_NoPlace hc_NoPlace tc_NoPlace s_NoFruit_NoPlace, ki_NoFruit_NoPlace := kit_own ec_NoPlace hc_NoPlace tc_NoPlace s_NoPlace_NoPlace s_NoFruit_NoPlace,
    kt_NoFruit_LookupError := kit_builtin (by decide +kernel) kt_NoFruit_LookupError }
  exact ⟨_, fun s v => .of_eq rfl, fun base _ _ => ok_law T⟩
end Rp
open PySem PySem.W PyProof.Rows
set_option maxHeartbeats 0 in
theorem PySem.Challenge.cw_ripepicks_k22_fruits_placed_otherwise_holds : PySem.Challenge.rw_ripepicks_k22_fruits_placed_otherwise.Holds := by
  w_on; o_law; k_head; (case hw => w_witness2)
  k_fill
  refine L2.walk_of (l := PySem.Challenge.rw_ripepicks_k22_fruits_placed_otherwise) (n := 63) (k := 9) (x := "_law_script") (CX := fun _ => L2.CX0) (sp := fun w => Rp.sp_law _) rfl (by decide) rfl ⟨rfl, by decide, by decide⟩ (fun w h Y => PySem.W.kIn_of Y) ?F (fun _ _ a ns hl _ hS => ⟨a, ns, rfl, hS, hl, fun _ => rfl⟩) (fun _ _ _ _ _ h => h)
  case F =>
    intro w mg fa h KX G hmg
    refine' Rp.all_mk KX G hmg ?a0 ?l0 ?c0 ?k0 ?a1 ?l1 ?c1 ?k1 ?a2 ?l2 ?c2 ?k2 ?a3 ?l3 ?c3 ?k3 ?a4 ?l4 ?c4 ?k4 ?a5 ?l5 ?c5 ?k5 ?a6 ?l6 ?c6 ?k6 ?a7 ?l7 ?c7 ?k7 ?a8 ?l8 ?c8 ?k8 ?a9 ?l9 ?c9 ?k9 ?a10 ?l10 ?c10 ?k10 ?ac_NoFruit ?ac_NoPlace ?z_len ?z_abs ?z_int ?z_list ?z_tuple ?z_all ?z_any ?z_isinstance ?z_max ?z_min ?z_range ?z_enumerate ?z_zip ?z_str ?z_bool ?z_LookupError ?z_repr ?z_sorted ?z_set ?xL_NoFruit ?sa_NoFruit ?ga_NoFruit ?gg_NoFruit ?nb_NoFruit ?ai_NoFruit ?ti_NoFruit ?li_NoFruit ?ci_NoFruit ?kc_NoFruit ?ec_NoFruit ?tc_NoFruit ?hc_NoFruit ?ha_NoFruit ?hm_NoFruit ?xL_NoPlace ?sa_NoPlace ?ga_NoPlace ?gg_NoPlace ?nb_NoPlace ?ai_NoPlace ?ti_NoPlace ?li_NoPlace ?ci_NoPlace ?kc_NoPlace ?ec_NoPlace ?tc_NoPlace ?hc_NoPlace ?ha_NoPlace ?hm_NoPlace ?hnD ?htD ?s_NoFruit_NoFruit ?s_NoFruit_NoPlace ?s_NoPlace_NoPlace ?kt_NoFruit_LookupError
    (case a0 => k_is)
    (case l0 => k_is)
    (case c0 => k_is)
    (case k0 => k_is)
    (case a1 => k_is)
    (case l1 => k_is)
    (case c1 => k_is)
    (case k1 => k_is)
    (case a2 => k_is)
    (case l2 => k_is)
    (case c2 => k_is)
    (case k2 => k_is)
    (case a3 => k_is)
    (case l3 => k_is)
    (case c3 => k_is)
    (case k3 => k_is)
    (case a4 => k_is)
    (case l4 => k_is)
    (case c4 => k_is)
    (case k4 => k_is)
    (case a5 => k_is)
    (case l5 => k_is)
    (case c5 => k_is)
    (case k5 => k_is)
    (case a6 => k_is)
    (case l6 => k_is)
    (case c6 => k_is)
    (case k6 => k_is)
    (case a7 => k_is)
    (case l7 => k_is)
    (case c7 => k_is)
    (case k7 => k_is)
    (case a8 => k_is)
    (case l8 => k_is)
    (case c8 => k_is)
    (case k8 => k_is)
    (case a9 => k_is)
    (case l9 => k_is)
    (case c9 => k_is)
    (case k9 => k_is)
    (case a10 => k_is)
    (case l10 => k_is)
    (case c10 => k_is)
    (case k10 => k_is)
    (case ac_NoFruit => k_is)
    (case ac_NoPlace => k_is)
    (case z_len => k_is)
    (case z_abs => k_is)
    (case z_int => k_is)
    (case z_list => k_is)
    (case z_tuple => k_is)
    (case z_all => k_is)
    (case z_any => k_is)
    (case z_isinstance => k_is)
    (case z_max => k_is)
    (case z_min => k_is)
    (case z_range => k_is)
    (case z_enumerate => k_is)
    (case z_zip => k_is)
    (case z_str => k_is)
    (case z_bool => k_is)
    (case z_LookupError => k_is)
    (case z_repr => k_is)
    (case z_sorted => k_is)
    (case z_set => k_is)
    (case xL_NoFruit => k_is)
    (case sa_NoFruit => k_is)
    (case ga_NoFruit => k_is)
    (case gg_NoFruit => k_is)
    (case nb_NoFruit => k_is)
    (case ai_NoFruit => k_is)
    (case ti_NoFruit => k_is)
    (case li_NoFruit => k_is)
    (case ci_NoFruit => k_is)
    (case kc_NoFruit => k_is)
    (case ec_NoFruit => k_is)
    (case tc_NoFruit => k_is)
    (case hc_NoFruit => k_is)
    (case ha_NoFruit => k_is)
    (case hm_NoFruit => k_is)
    (case xL_NoPlace => k_is)
    (case sa_NoPlace => k_is)
    (case ga_NoPlace => k_is)
    (case gg_NoPlace => k_is)
    (case nb_NoPlace => k_is)
    (case ai_NoPlace => k_is)
    (case ti_NoPlace => k_is)
    (case li_NoPlace => k_is)
    (case ci_NoPlace => k_is)
    (case kc_NoPlace => k_is)
    (case ec_NoPlace => k_is)
    (case tc_NoPlace => k_is)
    (case hc_NoPlace => k_is)
    (case ha_NoPlace => k_is)
    (case hm_NoPlace => k_is)
    (case hnD => k_is)
    (case htD => k_is)
    (case s_NoFruit_NoFruit => first | rfl | k_is)
    (case s_NoFruit_NoPlace => first | rfl | k_is)
    (case s_NoPlace_NoPlace => first | rfl | k_is)
    (case kt_NoFruit_LookupError => k_is)
