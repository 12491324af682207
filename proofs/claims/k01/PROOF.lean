import PyProof.Rows.All
import Wide.All
import OpenK.AllK
import Wide.FinOn
import HandS.ForMost
import HandS.Walk
import HandS.Style
import HandS.IsInst
import HandS.Property
import HandS.ClsMeth
import HandS.Conv
import HandS.Codes
import HandS.Exc
import HandS.ExcInit
import HandS.ExcOwn
import HandS.ExcField
import HandS.ExcIs
import HandS.SlotsOwn
import HandS.WordsExc
import HandS.TryOnly
import KE.KExcIs
import PyProof.InstNe
import PySem.Challenge.RW_coveredday_k01_orders_made_and_refused
set_option Elab.async false
set_option linter.all false
set_option maxRecDepth 100000
set_option maxHeartbeats 0

namespace RD
open PySem PySem.Spec PyProof.Rows L2
section
variable {K : PySem.W.Frag} {σ : L2.St} {H : Hp} {Q : VK} {D : Ends}
theorem seq {t u : TS} (h : t { D with nx := u D } σ H) : tSeq t u D σ H := h
theorem ifS {c : TT} {t u : TS} (h : c σ H fun b H1 => if b = true then t D σ H1 else u D σ H1) : tIfS c t u D σ H := h
theorem test {t : TE} {Q : Bool → Hp → Prop} (h : t σ H fun x H' => ∃ k, x = .bl k ∧ Q k H') : tTest t σ H Q := h
theorem tB_ {t : TE} {Q : Bool → Hp → Prop} (h : t σ H fun x H' => ∃ k, x = .bl k ∧ Q k H') : tB t σ H Q := h
theorem op {r : R2} {ta tb : TE} (h : ta σ H fun x H1 => tb σ H1 fun y H2 => r x y H2 Q) : tOp r ta tb σ H Q := h
theorem un {r : V → Hp → VK → Prop} {ta : TE} (h : ta σ H fun x H1 => r x H1 Q) : tUn r ta σ H Q := h
theorem var {i : Nat} {v : V} (e : σ[i]? = some (some v)) (h : Q v H) : tVar i σ H Q := ⟨v, e, h⟩
theorem c_ {v : V} (h : Q v H) : tC v σ H Q := h
theorem cons {ta : TE} {tr : TA} {Q : List V → Hp → Prop} (h : ta σ H fun x H1 => tr σ H1 fun xs H2 => Q (x :: xs) H2) : tCons ta tr σ H Q := h
theorem nil {Q : List V → Hp → Prop} (h : Q [] H) : tNil σ H Q := h
theorem cb {r : List V → Hp → VK → Prop} {t : TA} (h : t σ H fun vs H1 => r vs H1 Q) : tCB r t σ H Q := h
theorem call {sp : Sp} {dvs : List V} {E : XK} {t : TA} (h : t σ H fun vs H1 => sp (vs ++ dvs) H1 Q E) : tCall sp dvs E t σ H Q := h
theorem asg {te : TE} {g : TG} (h : te σ H fun x H1 => g x σ H1 D.nx) : tAsg te g D σ H := h
theorem gname {i : Nat} {v : V} {Q : L2.St → Hp → Prop} (h : Q (σ.set i (some v)) H) : gName i v σ H Q := h
theorem gsub {to ti : TE} {t : TSet} {v : V} {Q : L2.St → Hp → Prop} (h : to σ H fun o H1 => ti σ H1 fun i H2 => t o i v H2 fun H3 => Q σ H3) : gSub to ti t v σ H Q := h
theorem ret {te : TE} (h : te σ H D.rt) : tRet te D σ H := h
theorem drop {te : TE} (h : te σ H fun _ H1 => D.nx σ H1) : tDrop te D σ H := h
theorem next (h : D.nx σ H) : tNext D σ H := h
theorem not_ {t : TT} {Q : Bool → Hp → Prop} (h : t σ H fun c H1 => Q (!c) H1) : tNot t σ H Q := h
theorem and_ {t u : TT} {Q : Bool → Hp → Prop} (h : t σ H fun c H1 => if c = true then u σ H1 Q else Q false H1) : tAnd t u σ H Q := h
theorem or_ {t u : TT} {Q : Bool → Hp → Prop} (h : t σ H fun c H1 => if c = true then Q true H1 else u σ H1 Q) : tOr t u σ H Q := h
theorem if_ {t : TT} {ta tb : TE} (h : t σ H fun c H1 => if c = true then ta σ H1 Q else tb σ H1 Q) : tIf t ta tb σ H Q := h
theorem chain {r r' : R2} {ta tb tc : TE} (h : ta σ H fun x H1 => tb σ H1 fun y H2 => r x y H2 fun z H3 => ∃ k, z = .bl k ∧ (if k = true then tc σ H3 fun w' H4 => r' y w' H4 Q else Q (.bl false) H3)) : tChain r r' ta tb tc σ H Q := h
theorem notV {t : TE} (h : t σ H fun x H1 => ∃ c, x = .bl c ∧ Q (.bl (!c)) H1) : tNotV t σ H Q := h
theorem andV {ta tb : TE} (h : ta σ H fun x H1 => ∃ c, x = .bl c ∧ if c = true then tb σ H1 Q else Q (.bl false) H1) : tAndV ta tb σ H Q := h
theorem orV {ta tb : TE} (h : ta σ H fun x H1 => ∃ c, x = .bl c ∧ if c = true then Q (.bl true) H1 else tb σ H1 Q) : tOrV ta tb σ H Q := h
theorem fld {ta : TE} {f : Str} (h : ta σ H fun x H1 => ∃ a C dx fs v, x = .ref a ∧ H1 a = some (.ins C dx fs) ∧ Cls K C ∧ NoAttr K C f ∧ fs.lookup f = some v ∧ Q v H1) : tFld K ta f σ H Q := h
theorem lst {t : TA} (h : t σ H fun xs H1 => xs.length ≤ sizeLine ∧ ∀ p, H1 p = none → Q (.ref p) (upd H1 p (.lst xs))) : tLst t σ H Q := h
theorem tup {t : TA} (h : t σ H fun xs H1 => xs.length ≤ sizeLine ∧ ∀ p, H1 p = none → Q (.ref p) (upd H1 p (.tup xs))) : tTup t σ H Q := h
theorem sl {r : V → Option Int → Option Int → Hp → VK → Prop} {te : TE} {tl th : TO} (h : te σ H fun x H1 => tl σ H1 fun l H2 => th σ H2 fun u H3 => r x l u H3 Q) : tSl r te tl th σ H Q := h
theorem part {t : TE} {Q : Option Int → Hp → Prop} (h : t σ H fun x H1 => ∃ i, x = .int i ∧ Q (some i) H1) : tPart t σ H Q := h
theorem nopart {Q : Option Int → Hp → Prop} (h : Q none H) : tNoPart σ H Q := h
theorem bm {T : String} {r : V → List V → Hp → VK → Prop} {to : TE} {t : TA} (h : to σ H fun x H1 => tyV K T x H1 ∧ t σ H1 fun xs H2 => r x xs H2 Q) : tBM K T r to t σ H Q := h
theorem par {i j : Nat} {ta : TA} (h : ta σ H fun vs H1 => ∃ v w, vs = [v, w] ∧ D.nx ((σ.set i (some v)).set j (some w)) H1) : tPar i j ta D σ H := h
-- values
theorem i0 {g : Int → Int → V} {i j : Int} (h : Q (g i j) H) : rI0 g (.int i) (.int j) H Q := ⟨i, j, rfl, rfl, h⟩
theorem iC {C : Int → Int → Prop} {g : Int → Int → V} {i j : Int} (c : C i j) (h : Q (g i j) H) : rI C g (.int i) (.int j) H Q := ⟨i, j, rfl, rfl, c, h⟩
theorem u_ {g : Int → V} {i : Int} (h : Q (g i) H) : rU g (.int i) H Q := ⟨i, rfl, h⟩
theorem eq_ {x y : V} (s : scal x y = true) (h : Q (.bl (decide (x = y))) H) : rEq x y H Q := ⟨s, h⟩
theorem ne_ {x y : V} (s : scal x y = true) (h : Q (.bl (!decide (x = y))) H) : rNe x y H Q := ⟨s, h⟩
theorem ixL {p : Addr} {xs : List V} {i : Int} {v : V} (s : SqL K H p xs) (e : atI xs i = some v) (h : Q v H) : rIxL K (.ref p) (.int i) H Q := ⟨p, xs, i, v, rfl, rfl, s, e, h⟩
theorem setL {p : Addr} {xs : List V} {i : Int} {j : Nat} {v : V} {Q : Hp → Prop} (s : H p = some (.lst xs)) (e : ixN xs.length i = some j) (h : Q (upd H p (.lst (xs.set j v)))) : rSetL (.ref p) (.int i) v H Q := ⟨p, xs, i, j, rfl, rfl, s, e, h⟩
theorem mulr {i j : Int} (h1 : -(2 ^ 64) < j) (h2 : j < 2 ^ 64) : CMul i j := .inr ⟨h1, h2⟩
theorem mull {i j : Int} (h1 : -(2 ^ 64) < i) (h2 : i < 2 ^ 64) : CMul i j := .inl ⟨h1, h2⟩
end

theorem bm_ {K : PySem.W.Frag} {σ : L2.St} {H : Hp} {Q : VK} {T : String} {r : V → List V → Hp → VK → Prop} {to : TE} {t : TA} (h : to σ H fun x H1 => tyV K T x H1 ∧ t σ H1 fun xs H2 => r x xs H2 Q) : tBM K T r to t σ H Q := h
section
variable {K : PySem.W.Frag} {σ : L2.St} {H : Hp} {Q : VK} {D : Ends}
theorem par3 {i j l : Nat} {ta : TA} (h : ta σ H fun vs H1 => ∃ u v w, vs = [u, v, w] ∧ D.nx (((σ.set i (some u)).set j (some v)).set l (some w)) H1) : tPar3 i j l ta D σ H := h
theorem append {l : Addr} {xs : List V} {y : V} (s : H l = some (.lst xs)) (z : xs.length < sizeLine) (h : Q .non (upd H l (.lst (xs ++ [y])))) : rAppend (.ref l) [y] H Q := ⟨l, xs, y, rfl, rfl, s, z, h⟩
theorem slS {z : Str} {lo hi : Option Int} (s : z.length ≤ sizeLine) (h : Q (.str (cutS z lo hi)) H) : rSlS (.str z) lo hi H Q := ⟨z, rfl, s, h⟩
theorem slL {a : Addr} {xs : List V} {lo hi : Option Int} (s : SqL K H a xs) (h : ∀ p, H p = none → Q (.ref p) (upd H p (.lst (cutV xs lo hi)))) : rSlL K (.ref a) lo hi H Q := ⟨a, xs, rfl, s, h⟩
theorem isB {a b : Bool} (h : Q (.bl (decide (a = b))) H) : rIsB (.bl a) (.bl b) H Q := ⟨a, b, rfl, rfl, h⟩
theorem notB {a b : Bool} (h : Q (.bl (!decide (a = b))) H) : rNotB (.bl a) (.bl b) H Q := ⟨a, b, rfl, rfl, h⟩
theorem allB {a : Addr} {bs : List Bool} (s : SqL K H a (bs.map V.bl)) (h : Q (.bl (bs.all id)) H) : rAll K [V.ref a] H Q := ⟨a, bs, rfl, s, h⟩
theorem gnil {Q : L2.St → Hp → Prop} (h : Q σ H) : gNil [] σ H Q := ⟨rfl, h⟩
theorem gcons {t : TG} {u : TGs} {v : V} {r : List V} {Q : L2.St → Hp → Prop} (h : t v σ H fun σ' H' => u r σ' H' Q) : gCons t u (v :: r) σ H Q := ⟨v, r, rfl, h⟩
theorem gtup {n : Nat} {t : TGs} {a : Addr} {xs : List V} {Q : L2.St → Hp → Prop} (s : SqT K H a xs) (e : xs.length = n) (h : t xs σ H Q) : gTup K n t (.ref a) σ H Q := ⟨a, xs, rfl, s, e, h⟩
theorem for_ {wi : TI} {g : TG} {tb : TS} {R : It → Hp → Prop} (e : tFor wi g tb D σ H = wi σ H R) (h : wi σ H R) : tFor wi g tb D σ H := by
  rw [e]
  exact h
theorem lc {wi : TI} {g : TG} {tt : TT} {te : TE} {vs : List Nat} {R : It → Hp → Prop} (e : tLc wi g tt te vs σ H Q = wi σ H R) (h : wi σ H R) : tLc wi g tt te vs σ H Q := by
  rw [e]
  exact h
theorem ienum {ta : TA} {R : It → Hp → Prop} {R' : List V → Hp → Prop} (e : iEnum K ta σ H R = ta σ H R') (h : ta σ H R') : iEnum K ta σ H R := by
  rw [e]
  exact h
theorem irng1 {ta : TA} {R : It → Hp → Prop} {R' : List V → Hp → Prop} (e : iRng1 ta σ H R = ta σ H R') (h : ta σ H R') : iRng1 ta σ H R := by
  rw [e]
  exact h
theorem ilist {ta : TE} {R : It → Hp → Prop} {R' : VK} (e : iList K ta σ H R = ta σ H R') (h : ta σ H R') : iList K ta σ H R := by
  rw [e]
  exact h
theorem itup {ta : TE} {R : It → Hp → Prop} {R' : VK} (e : iTup K ta σ H R = ta σ H R') (h : ta σ H R') : iTup K ta σ H R := by
  rw [e]
  exact h
theorem istr {ta : TE} {R : It → Hp → Prop} {R' : VK} (e : iStr ta σ H R = ta σ H R') (h : ta σ H R') : iStr ta σ H R := by
  rw [e]
  exact h
theorem yes {Q : Bool → Hp → Prop} (h : Q true H) : tYes σ H Q := h
theorem prop {C : Addr} {sp : Sp} {dvs : List V} {E : XK} {ta : TE} (h : ta σ H fun x H1 => ∃ a dx fs, x = .ref a ∧ H1 a = some (.ins C dx fs) ∧ sp (.ref a :: dvs) H1 Q E) : tProp C sp dvs E ta σ H Q := h
theorem cval {ta : TE} {f : Str} (h : ta σ H fun x H1 => ∃ C mc v u, x = .ref C ∧ ClX.CRead K C mc ∧ ClX.CVal K C mc f v u ∧ Q v H1) : ClX.tCVal K ta f σ H Q := h
theorem ntt {A B : Prop} (h : B) : if (!true) = true then A else B := h
theorem ntf {A B : Prop} (h : A) : if (!false) = true then A else B := h
theorem sfld {ta tv : TE} {f : Str} {R : VK} (e : sFld K ta tv f D σ H = tv σ H R) (h : tv σ H R) : sFld K ta tv f D σ H := by
  rw [e]
  exact h
theorem lenp {f : Str} {v : V} {fs : List (Str × V)} {k : Nat} (h : fs.length + (k + 1) < 1000) : (putF f v fs).length + k < 1000 := by
  have := length_putF f v fs
  omega
theorem make {C : Addr} {sp : Sp} {dvs : List V} {E : XK} {t : TA} {R : List V → Hp → Prop} (e : tMake C sp dvs E t σ H Q = t σ H R) (h : t σ H R) : tMake C sp dvs E t σ H Q := by
  rw [e]
  exact h
theorem meth {C : Addr} {m : Str} {sp : Sp} {dvs : List V} {E : XK} {ta : TE} {t : TA} {R : VK} (e : tMeth C m sp dvs E ta t σ H Q = ta σ H R) (h : ta σ H R) : tMeth C m sp dvs E ta t σ H Q := by
  rw [e]
  exact h
theorem tyL {l : Addr} {xs : List V} (h : H l = some (.lst xs)) : tyV K "list" (.ref l) H := Or.inl ⟨rfl, xs, .inl (.inl h)⟩
end

end RD

local macro_rules
  | `(tactic| walk_at "rd_c") => `(tactic| first
    | (exact RD.mulr (by decide) (by decide)) | (exact RD.mull (by decide) (by decide)) | (exact RD.mulr (by omega) (by omega)) | (exact RD.mull (by omega) (by omega))
    | (exact ⟨by decide, by decide⟩) | (exact (⟨by omega, by omega⟩ : L2.CDiv _ _)) | (exact (⟨by decide, by decide, by decide⟩ : L2.CPow _ _))
    | (show (0 : Int) < _; first | decide | omega))
local macro_rules
  | `(tactic| walk_at "rd_h") => `(tactic| first | assumption | exact L2.SqL.of (by assumption) | exact L2.upd_same | exact L2.SqL.of L2.upd_same | exact L2.SqT.of (by assumption) | exact L2.SqT.of L2.upd_same)
local macro_rules
  | `(tactic| walk_at "rd_z") => `(tactic| first | (decide; done) | exact Nat.le_trans (show _ ≤ 1000 by first | omega | (simp; omega)) (by decide) | exact Nat.lt_of_le_of_lt (show _ ≤ 1000 by first | omega | (simp; omega)) (by decide))
local macro_rules
  | `(tactic| walk_at "rd_l") => `(tactic| first | (show 0 < 1000; decide) | ((refine RD.lenp (k := 0) ?_); (repeat refine RD.lenp ?_); (decide)))
local macro_rules
  | `(tactic| walk_at "rd1") => `(tactic| with_reducible first
    | apply RD.op
    | (apply RD.var; (with_unfolding_all rfl))
    | apply RD.c_
    | (apply RD.ixL; (with_unfolding_all walk_at "rd_h"); (with_unfolding_all rfl))
    | apply RD.cons
    | apply RD.nil
    | apply RD.test
    | apply RD.cb
    | apply RD.call
    | apply RD.i0
    | apply RD.asg
    | apply RD.gname
    | apply RD.seq
    | apply RD.ret
    | (apply RD.eq_; (with_unfolding_all rfl))
    | (apply RD.ne_; (with_unfolding_all rfl))
    | apply RD.ifS
    | (apply RD.iC; (with_unfolding_all walk_at "rd_c"))
    | apply RD.next
    | apply RD.tB_
    | apply RD.gsub
    | apply RD.drop
    | apply RD.if_
    | apply RD.not_
    | apply RD.or_
    | apply RD.and_
    | apply RD.un
    | apply RD.chain
    | apply RD.notV
    | apply RD.andV
    | apply RD.orV
    | apply RD.fld
    | apply RD.lst
    | apply RD.tup
    | apply RD.sl
    | apply RD.part
    | apply RD.nopart
    | apply RD.bm
    | apply RD.par
    | apply RD.par3
    | apply RD.u_
    | (apply RD.setL; (with_unfolding_all walk_at "rd_h"); (with_unfolding_all rfl))
    | (apply RD.for_; (with_unfolding_all rfl))
    | (apply RD.lc; (with_unfolding_all rfl))
    | (apply RD.ienum; (with_unfolding_all rfl))
    | (apply RD.irng1; (with_unfolding_all rfl))
    | (apply RD.ilist; (with_unfolding_all rfl))
    | (apply RD.itup; (with_unfolding_all rfl))
    | (apply RD.istr; (with_unfolding_all rfl))
    | (apply RD.slS; (with_unfolding_all walk_at "rd_z"))
    | (apply RD.append; (with_unfolding_all walk_at "rd_h"); (with_unfolding_all walk_at "rd_z"))
    | refine ⟨RD.tyL (by with_unfolding_all walk_at "rd_h"), ?_⟩
    | apply RD.yes
    | apply L2.iteT
    | apply L2.iteF
    | apply RD.ntt
    | apply RD.ntf
    | refine ⟨_, _, _, _, _, rfl, by assumption, by with_unfolding_all assumption, by with_unfolding_all walk_at "rd_n", by walk_at "rd_f", ?_⟩
    | apply RD.prop
    | apply RD.cval
    | (apply RD.make; (with_unfolding_all rfl))
    | (apply RD.meth; (with_unfolding_all rfl))
    | (apply RD.sfld; (with_unfolding_all rfl))
    | refine ⟨_, _, _, _, rfl, by with_unfolding_all walk_at "rd_h", by with_unfolding_all assumption, by with_unfolding_all walk_at "rd_n", by with_unfolding_all walk_at "rd_l", ?_⟩
    | apply RD.isB
    | apply RD.notB
    | apply RD.gnil
    | apply RD.gcons
    | (apply RD.gtup; (with_unfolding_all walk_at "rd_h"); (with_unfolding_all rfl))
    | refine Or.inl ⟨_, rfl, ?_⟩
    | refine ⟨_, _, rfl, Or.inl (by with_unfolding_all walk_at "rd_h"), ?_⟩
    | refine ⟨_, _, rfl, rfl, by with_unfolding_all walk_at "rd_z", ?_⟩
    | refine ⟨_, rfl, ?_⟩
   )
local macro_rules
  | `(tactic| walk_at "rd") => `(tactic| repeat walk_at "rd1")

namespace KK
open PySem PySem.Spec PyProof.Rows L2
def top (i : Nat) : Stmt := PySem.Challenge.pw_coveredday_k01_orders_made_and_refused.main.body.getD i (.Pass ⟨0, 0, 0, 0⟩)
/-! ### a rule: list(text) -/
theorem call_listS {X : Cx} (hc : X.calm = true) : CallR X (.type "list") (fun xs H Q => ∃ z : Str, xs = [.str z] ∧ z.length ≤ sizeLine ∧ ∀ p, H p = none → Q (.ref p) (upd H p (.lst (z.cps.toList.map fun c => V.str ⟨#[c]⟩)))) := by
  intro pins s σ H xs us Q I r h
  obtain ⟨z, rfl, hz, q⟩ := h
  obtain ⟨u, rfl, rx⟩ := vals1 r
  obtain ⟨t, rfl⟩ := rx
  refine PySem.call_list_str (I.ok.hd hc) z t (hn := hz) fun h' tk acc' c' hk hS' hacc => ?_
  refine ⟨.ref s.heap.objs.size, _, I.laid (t' := tk) hk (Nat.le_refl _) (show ObjOk X.prog X.w _ h' _ (.lst _) from ⟨by rw [List.length_map, Array.length_toList]; exact hz, acc'.toList, c', ?_, by simpa using hS'⟩), rfl, q _ (I.hok.fresh (Nat.le_refl _))⟩
  refine vals_of_idx _ _ (by rw [List.length_map, Array.length_toList, Array.length_toList]; exact hacc.1) fun j u hj => ?_
  obtain ⟨c, u', hc', rfl⟩ := hacc.2 j u (by simpa using hj)
  exact ⟨.str ⟨#[c]⟩, by simp [hc'], ⟨u', rfl⟩⟩
/-! ### a def as its callers know it -/
structure Def (P : Program) (w : World) (K : PySem.W.Frag) (mg : Str → Option Value) (base : Heap) (x : Str) (k : Nat) (ps : List Str) (sp : Sp) where
  f : Addr
  fd : FuncData
  ok : FnOk P w K mg base CX0 k f fd ps sp
  mg : mg x = some (.ref f)
  kp : PySem.W.keepIn K (.ref f) = true
  b : Binds K fd ps []
/-! ### heaps: the bag may change, all else stays -/
def Bag (H : Hp) (b : Addr) : Prop := ∃ x y : Int, H b = some (.lst [.int x, .int y])
def Ext (b : Addr) (H H' : Hp) : Prop := Bag H' b ∧ ∀ c o, H c = some o → c ≠ b → H' c = some o
theorem Ext.refl {b : Addr} {H : Hp} (h : Bag H b) : Ext b H H := ⟨h, fun _ _ e _ => e⟩
theorem Ext.trans {b : Addr} {H H1 H2 : Hp} (e : Ext b H H1) (f : Ext b H1 H2) : Ext b H H2 := ⟨f.1, fun c o h n => f.2 c o (e.2 c o h n) n⟩
theorem ext_bag {b : Addr} {H : Hp} (x y : Int) : Ext b H (upd H b (.lst [.int x, .int y])) := ⟨⟨x, y, upd_same⟩, fun c o e n => by rw [upd_ne n]; exact e⟩
theorem ext_new {b p : Addr} {H : Hp} {o : HO} (h : Bag H b) (n : H p = none) : Ext b H (upd H p o) := by
  obtain ⟨x, y, e⟩ := h
  exact ⟨⟨x, y, by rw [upd_ne (ne_of_none e n)]; exact e⟩, fun c o' e' _ => by rw [upd_ne (ne_of_none e' n)]; exact e'⟩
theorem ne_bag {b p : Addr} {H : Hp} (h : Bag H b) (n : H p = none) : p ≠ b := by
  obtain ⟨x, y, e⟩ := h
  exact (ne_of_none e n).symm
/-- something other than the bag is changed -/
theorem ext_set {b p : Addr} {H H1 : Hp} {o : HO} (e : Ext b H H1) (n : p ≠ b) (h : H p = none) : Ext b H (upd H1 p o) := by
  obtain ⟨⟨x, y, z⟩, k⟩ := e
  exact ⟨⟨x, y, by rw [upd_ne n.symm]; exact z⟩, fun c o' e' m => by rw [upd_ne (ne_of_none e' h)]; exact k c o' e' m⟩
/-! ### promises -/
def spTake : Sp := fun vs H Q _ => ∃ (b : Addr) (m : Int), vs = [.ref b, .int m] ∧ Bag H b ∧ 0 < m ∧ m < 1073741824 ∧ ∀ (r : Int) (H' : Hp), 0 ≤ r → r < m → Ext b H H' → Q (.int r) H'
def spOf : Sp := fun vs H Q _ => ∃ (b l : Addr) (xs : List V), vs = [.ref b, .ref l] ∧ Bag H b ∧ H l = some (.lst xs) ∧ l ≠ b ∧ 0 < xs.length ∧ xs.length < 1000 ∧ ∀ (v : V) (H' : Hp), v ∈ xs → Ext b H H' → Q v H'
def spFar : Sp := fun vs H Q _ => ∃ (b : Addr) (m : Int), vs = [.ref b, .int m] ∧ Bag H b ∧ 0 ≤ m ∧ ∀ (r : Int) (H' : Hp), 0 ≤ r → r ≤ m → Ext b H H' → Q (.int r) H'
def spBag (K : PySem.W.Frag) : Sp := fun vs H Q _ => ∃ (a : Addr) (ns : List Int) (i : Nat), vs = [.ref a, .int i] ∧ SqL K H a (ns.map V.int) ∧ ns.length ≤ 63 ∧ ∀ (b : Addr) (H' : Hp), H b = none → Bag H' b → Same H H' → Q (.ref b) H'
structure TxtB (mg : Str → Option Value) : Prop where
  b_int : mg "int" = none
  b_abs : mg "abs" = none
  b_len : mg "len" = none
  b_range : mg "range" = none
  b_list : mg "list" = none
  b_enumerate : mg "enumerate" = none
section
variable {P : Program} {w : World} {K : PySem.W.Frag} {mg : Str → Option Value} {base : Heap}
abbrev s_take : Stmt := top 17
theorem sc_take : FnScope ["bag", "many", "digit"] ["bag", "many"] (defScope s_take) := ⟨rfl, rfl, rfl, by decide +kernel, rfl, by decide +kernel, by decide +kernel⟩
theorem ok_take {f : Addr} {fd : FuncData} (F : Fun K "_law_take" "_law_take" s_take f fd) (T : TxtB mg) : FnOk P w K mg base CX0 1 f fd ["bag", "many"] spTake := by
  refine F.ok sc_take (fun vs H Q E h => ?_) (fun cdv A outer s H vs Q E hr h => ?_)
  · obtain ⟨b, m, rfl, _⟩ := h
    rfl
  · obtain ⟨b, m, rfl, ⟨x, y, hb⟩, m0, m1, k⟩ := h
    refine ⟨_, (pss_cons (ps_if (pt_cmpR op_gt (pe_ix ix_list (pv 0) pe_int (fun _ _ => rfl)) pe_int (nomark _)) (pss_cons (ps_set (i := 2) sc_take.nd rfl (.inl rfl) (pe_op op_mod (pe_callTy call_int1 (by rfl) T.b_int (by decide +kernel) (pa_cons (pe_ix ix_list (pv 0) pe_int (fun _ _ => rfl)) pa_nil)) (pv 1)))
      (pss_cons (ps_asg (pe_op op_fdiv (pe_ix ix_list (pv 0) pe_int (fun _ _ => rfl)) (pv 1)) (pg_sub (pv 0) pe_int set_list))
      (pss_one (ps_ret (pv 2))))) pss_nil)
      (pss_cons (ps_asg (pe_op op_mod (pe_callTy call_int1 (by rfl) T.b_int (by decide +kernel) (pa_cons (pe_op op_add (pe_op op_mul (pe_ix ix_list (pv 0) pe_int (fun _ _ => rfl)) pe_int) pe_int) pa_nil)) pe_int) (pg_sub (pv 0) pe_int set_list))
      (pss_one (ps_ret (pe_op op_mod (pe_op op_fdiv (pe_op op_mod (pe_callTy call_int1 (by rfl) T.b_int (by decide +kernel) (pa_cons (pe_op op_mul (pe_op op_fdiv (pe_ix ix_list (pv 0) pe_int (fun _ _ => rfl)) pe_int) pe_int) pa_nil)) pe_int) pe_int) (pv 1)))))), ?_⟩
    walk_at "rd"
    refine ite2 (fun c => ?_) (fun c => ?_)
    · walk_at "rd"
      exact k _ _ (Int.emod_nonneg _ (by omega)) (Int.emod_lt_of_pos _ m0) (ext_bag _ _)
    · walk_at "rd"
      exact k _ _ (Int.emod_nonneg _ (by omega)) (Int.emod_lt_of_pos _ m0) (ext_bag _ _)
abbrev s_of : Stmt := top 18
theorem sc_of : FnScope ["bag", "some"] ["bag", "some"] (defScope s_of) := ⟨rfl, rfl, rfl, by decide +kernel, rfl, by decide +kernel, by decide +kernel⟩
theorem ok_of {f : Addr} {fd : FuncData} (F : Fun K "_law_of" "_law_of" s_of f fd) (T : TxtB mg) (D_take : Def P w K mg base "_law_take" 1 ["bag", "many"] spTake) : FnOk P w K mg base CX0 2 f fd ["bag", "some"] spOf := by
  refine F.ok sc_of (fun vs H Q E h => ?_) (fun cdv A outer s H vs Q E hr h => ?_)
  · obtain ⟨b, l, xs, rfl, _⟩ := h
    rfl
  · obtain ⟨b, l, xs, rfl, hb, hl, nlb, x0, x1, k⟩ := h
    refine ⟨_, (pss_one (ps_ret (pe_ix ix_list (pv 1) (pe_call D_take.ok (hr.mono (by decide)) (by rfl) D_take.mg D_take.kp D_take.b .nil pass0 (pa_cons (pv 0) (pa_cons (pe_callB call_len_seq (by rfl) T.b_len (by decide +kernel) (pa_cons (pv 1) pa_nil)) pa_nil))) (fun _ _ => rfl)))), ?_⟩
    walk_at "rd"
    refine ⟨b, _, rfl, hb, by omega, by omega, fun r H' r0 r1 e => ?_⟩
    have hj : r.toNat < xs.length := by omega
    refine ⟨l, xs, r, xs[r.toNat], rfl, rfl, SqL.of (e.2 _ _ hl nlb), at_of (j := r.toNat) (by omega) (List.getElem?_eq_getElem hj), ?_⟩
    exact k _ _ (List.getElem_mem hj) e
abbrev s_far : Stmt := top 20
theorem sc_far : FnScope ["bag", "most", "value"] ["bag", "most"] (defScope s_far) := ⟨rfl, rfl, rfl, by decide +kernel, rfl, by decide +kernel, by decide +kernel⟩
theorem ok_far {f : Addr} {fd : FuncData} (F : Fun K "_law_far" "_law_far" s_far f fd) (D_take : Def P w K mg base "_law_take" 1 ["bag", "many"] spTake) : FnOk P w K mg base CX0 2 f fd ["bag", "most"] spFar := by
  refine F.ok sc_far (fun vs H Q E h => ?_) (fun cdv A outer s H vs Q E hr h => ?_)
  · obtain ⟨b, m, rfl, _⟩ := h
    rfl
  · obtain ⟨b, m, rfl, hb, m0, k⟩ := h
    refine ⟨_, (pss_cons (ps_set (i := 2) sc_far.nd rfl (.inl rfl) (pe_op op_add (pe_op op_add (pe_op op_mul (pe_call D_take.ok (hr.mono (by decide)) (by rfl) D_take.mg D_take.kp D_take.b .nil pass0 (pa_cons (pv 0) (pa_cons (pe_op op_pow pe_int pe_int) pa_nil))) (pe_op op_pow pe_int pe_int)) (pe_op op_mul (pe_call D_take.ok (hr.mono (by decide)) (by rfl) D_take.mg D_take.kp D_take.b .nil pass0 (pa_cons (pv 0) (pa_cons (pe_op op_pow pe_int pe_int) pa_nil))) (pe_op op_pow pe_int pe_int))) (pe_call D_take.ok (hr.mono (by decide)) (by rfl) D_take.mg D_take.kp D_take.b .nil pass0 (pa_cons (pv 0) (pa_cons (pe_op op_pow pe_int pe_int) pa_nil)))))
      (pss_one (ps_ret (pe_op op_mod (pv 2) (pe_op op_add (pv 1) pe_int))))), ?_⟩
    walk_at "rd"
    refine ⟨b, _, rfl, hb, by decide, by decide, fun r1 H1 l1 u1 e1 => ?_⟩
    walk_at "rd"
    refine ⟨b, _, rfl, e1.1, by decide, by decide, fun r2 H2 l2 u2 e2 => ?_⟩
    walk_at "rd"
    refine ⟨b, _, rfl, e2.1, by decide, by decide, fun r3 H3 l3 u3 e3 => ?_⟩
    walk_at "rd"
    exact k _ _ (Int.emod_nonneg _ (by omega)) (by have := Int.emod_lt_of_pos (r1 * 10 ^ (12 : Int).toNat + r2 * 10 ^ (6 : Int).toNat + r3) (show 0 < m + 1 by omega); omega) ((e1.trans e2).trans e3)

theorem cut_int {ns : List Int} {lo hi : Option Int} {i : Nat} {y : V} (h : (cutV (ns.map V.int) lo hi)[i]? = some y) : ∃ z, y = V.int z := by
  have m := List.mem_of_getElem? h
  unfold cutV at m
  have m2 := List.mem_of_mem_drop (List.mem_of_mem_take m)
  obtain ⟨z, _, e⟩ := List.mem_map.mp m2
  exact ⟨z, e.symm⟩
theorem Same.new {H H' : Hp} {p : Addr} {o : HO} (s : Same H H') (n : H' p = none) : Same H (upd H' p o) := fun c u e => by
  rw [upd_ne (ne_of_none (s _ _ e) n)]
  exact s _ _ e
abbrev s_bag : Stmt := top 16
theorem sc_bag : FnScope ["script", "at", "cell", "mixed", "k", "each"] ["script", "at"] (defScope s_bag) := ⟨rfl, rfl, rfl, by decide +kernel, rfl, by decide +kernel, by decide +kernel⟩
theorem ok_bag {f : Addr} {fd : FuncData} (F : Fun K "_law_bag" "_law_bag" s_bag f fd) (T : TxtB mg) : FnOk P w K mg base CX0 1 f fd ["script", "at"] (spBag K) := by
  refine F.ok sc_bag (fun vs H Q E h => ?_) (fun cdv A outer s H vs Q E hr h => ?_)
  · obtain ⟨a, ns, i, rfl, _⟩ := h
    rfl
  · obtain ⟨a, ns, i, rfl, hS, hlen, k⟩ := h
    refine ⟨_, (pss_cons (ps_set (i := 2) sc_bag.nd rfl (.inl rfl) (pe_ifExp (pt_cmpR op_lt (pv 1) (pe_callB call_len_seq (by rfl) T.b_len (by decide +kernel) (pa_cons (pv 0) pa_nil)) (nomark _)) (pe_ix ix_list (pv 0) (pv 1) (fun _ _ => rfl)) pe_int))
      (pss_cons (ps_set (i := 3) sc_bag.nd rfl (.inl rfl) (pe_op op_add (pe_op op_mul pe_int (pv 1)) pe_int))
      (pss_cons (ps_for PassesOwn.never rfl (pi_enum (by rfl) T.b_enumerate (pa_cons (pe_slice sl_list (pv 0) po_none (po_some pe_int)) pa_nil)) (pg_tup rfl (pgs_cons (pg_name (i := 4) sc_bag.nd rfl (.inl rfl)) (pgs_cons (pg_name (i := 5) sc_bag.nd rfl (.inl rfl)) pgs_nil)))
      (pss_one (ps_set (i := 3) sc_bag.nd rfl (.inl rfl) (pe_op op_mod (pe_callTy call_int1 (by rfl) T.b_int (by decide +kernel) (pa_cons (pe_op op_add (pe_op op_add (pe_op op_mul (pv 3) pe_int) (pe_op op_mod (pe_callTy call_int1 (by rfl) T.b_int (by decide +kernel) (pa_cons (pv 5) pa_nil)) pe_int)) (pe_op op_mul pe_int (pv 4))) pa_nil)) pe_int))))
      (pss_one (ps_ret (pe_lst (pa_cons (pe_ifExp (pt_cmpR op_ge (pe_callB call_abs (by rfl) T.b_abs (by decide +kernel) (pa_cons (pv 2) pa_nil)) (pe_op op_pow pe_int pe_int) (nomark _)) (pe_callB call_abs (by rfl) T.b_abs (by decide +kernel) (pa_cons (pv 2) pa_nil)) pe_int) (pa_cons (pv 3) pa_nil)))))))), ?_⟩
    walk_at "rd"
    refine ite2 (fun c => ?_) (fun c => ?_)
    · walk_at "rd"
      have hi : i < ns.length := by
        have := of_decide_eq_true c
        rw [List.length_map] at this
        omega
      refine RD.ixL hS (at_of (j := i) rfl (by rw [List.getElem?_map, List.getElem?_eq_getElem hi]; rfl)) ?_
      walk_at "rd"
      refine ⟨a, _, rfl, hS, fun p np => ?_⟩
      walk_at "rd"
      refine ⟨p, _, rfl, SqL.of upd_same, ?_⟩
      refine for_it walk_enum (fun j σ H1 => ∃ (m : Int) (v4 v5 : Option V), σ = [some (.ref a), some (.int i), some (.int (ns[i])), some (.int m), v4, v5] ∧ Same H H1 ∧ H1 p = some (.lst (cutV (ns.map V.int) none (some 60))))
        ⟨_, none, none, rfl, Same.new (Same.refl H) np, upd_same⟩ (fun _ _ _ _ ⟨_, _, _, _, _, e⟩ => SqL.of e) ?_ ?_
      · rintro j v σ H1 H2 hj ⟨m, v4, v5, rfl, sm, hp⟩ ⟨T1, x, y, rfl, nT, rfl, ex, ey⟩
        obtain ⟨z, rfl⟩ := cut_int ey
        cases ex
        walk_at "rd"
        exact ⟨_, _, _, rfl, Same.new sm nT, by rw [upd_ne (ne_of_none hp nT)]; exact hp⟩
      · rintro σ H1 ⟨m, v4, v5, rfl, sm, hp⟩
        walk_at "rd"
        refine ite2 (fun c1 => ?_) (fun c1 => ?_)
        · walk_at "rd"
          exact ⟨by show 2 ≤ sizeLine; decide, fun q nq => k q _ (sm.free nq) ⟨_, _, upd_same⟩ (Same.new sm nq)⟩
        · walk_at "rd"
          exact ⟨by show 2 ≤ sizeLine; decide, fun q nq => k q _ (sm.free nq) ⟨_, _, upd_same⟩ (Same.new sm nq)⟩
    · walk_at "rd"
      refine ⟨a, _, rfl, hS, fun p np => ?_⟩
      walk_at "rd"
      refine ⟨p, _, rfl, SqL.of upd_same, ?_⟩
      refine for_it walk_enum (fun j σ H1 => ∃ (m : Int) (v4 v5 : Option V), σ = [some (.ref a), some (.int i), some (.int 0), some (.int m), v4, v5] ∧ Same H H1 ∧ H1 p = some (.lst (cutV (ns.map V.int) none (some 60))))
        ⟨_, none, none, rfl, Same.new (Same.refl H) np, upd_same⟩ (fun _ _ _ _ ⟨_, _, _, _, _, e⟩ => SqL.of e) ?_ ?_
      · rintro j v σ H1 H2 hj ⟨m, v4, v5, rfl, sm, hp⟩ ⟨T1, x, y, rfl, nT, rfl, ex, ey⟩
        obtain ⟨z, rfl⟩ := cut_int ey
        cases ex
        walk_at "rd"
        exact ⟨_, _, _, rfl, Same.new sm nT, by rw [upd_ne (ne_of_none hp nT)]; exact hp⟩
      · rintro σ H1 ⟨m, v4, v5, rfl, sm, hp⟩
        walk_at "rd"
        refine ite2 (fun c1 => ?_) (fun c1 => ?_)
        · walk_at "rd"
          exact ⟨by show 2 ≤ sizeLine; decide, fun q nq => k q _ (sm.free nq) ⟨_, _, upd_same⟩ (Same.new sm nq)⟩
        · walk_at "rd"
          exact ⟨by show 2 ≤ sizeLine; decide, fun q nq => k q _ (sm.free nq) ⟨_, _, upd_same⟩ (Same.new sm nq)⟩
end
end KK

namespace KK
open PySem PySem.Spec PyProof.Rows L2
/-! ### names -/
def Ltrs (z : Str) : Prop := ∀ c ∈ z.cps.toList, 97 ≤ c ∧ c ≤ 122
instance (z : Str) : Decidable (Ltrs z) := inferInstanceAs (Decidable (∀ c ∈ z.cps.toList, 97 ≤ c ∧ c ≤ 122))
structure NameOk (z : Str) : Prop where
  lo : 1 ≤ z.length
  hi : z.length ≤ 12
  ltr : Ltrs z
  nc : z ≠ "cash"
theorem len_app (x y : Str) : (x ++ y).length = x.length + y.length := by
  show (x.cps ++ y.cps).size = _
  rw [Array.size_append]
  rfl
theorem list_app (x y : Str) : (x ++ y).cps.toList = x.cps.toList ++ y.cps.toList := by
  show (x.cps ++ y.cps).toList = _
  rw [Array.toList_append]
theorem ltrs_app {x y : Str} (hx : Ltrs x) (hy : Ltrs y) : Ltrs (x ++ y) := fun c hc => by
  rw [list_app] at hc
  rcases List.mem_append.mp hc with h | h
  · exact hx c h
  · exact hy c h
theorem ltrs_one {c : Nat} (h : 97 ≤ c ∧ c ≤ 122) : Ltrs ⟨#[c]⟩ := fun d hd => by
  have : d = c := by simpa using hd
  subst this
  exact h
theorem ltrs_cut {z : Str} {lo hi : Option Int} (h : Ltrs z) : Ltrs (cutS z lo hi) := fun c hc => h c (List.mem_of_mem_drop (List.mem_of_mem_take (by simpa [cutS] using hc)))
theorem cut_lens (z : Str) {p : Nat} (h : p ≤ z.length) : (cutS z none (some (p : Int))).length + (cutS z (some (p : Int)) none).length = z.length := by
  show (List.toArray _).size + (List.toArray _).size = _
  simp only [List.size_toArray, HT.sIx_none, HT.sIx_nat, List.length_take, List.length_drop, Array.length_toList]
  have : z.cps.size = z.length := rfl
  omega
theorem str_ext {x y : Str} (h : x.cps.toList = y.cps.toList) : x = y := by
  cases x; cases y
  exact congrArg Str.mk (Array.toList_inj.mp h)
theorem not_cash_q (x : Str) : x ++ ("q" : Str) ≠ ("cash" : Str) := by
  intro e
  have e1 : (x ++ ("q" : Str)).cps.toList.getLast? = ("cash" : Str).cps.toList.getLast? := by rw [e]
  rw [list_app] at e1
  have e2 : ("q" : Str).cps.toList = [113] := by decide +kernel
  have e3 : ("cash" : Str).cps.toList.getLast? = some 104 := by decide +kernel
  rw [e2, e3, List.getLast?_concat] at e1
  cases e1
/-- a made name: the stem with a letter in it -/
def nameAt (A B : Str) (c : Nat) : Str := A ++ ⟨#[c]⟩ ++ B
theorem nameAt_len (A B : Str) (c : Nat) : (nameAt A B c).length = A.length + B.length + 1 := by
  unfold nameAt
  rw [len_app, len_app]
  show A.length + 1 + B.length = _
  omega
theorem nameAt_ltr {A B : Str} {c : Nat} (hA : Ltrs A) (hB : Ltrs B) (h : 97 ≤ c ∧ c ≤ 122) : Ltrs (nameAt A B c) := ltrs_app (ltrs_app hA (ltrs_one h)) hB
theorem nameAt_inj {A B : Str} {c d : Nat} (h : nameAt A B c = nameAt A B d) : c = d := by
  have e : (nameAt A B c).cps.toList = (nameAt A B d).cps.toList := by rw [h]
  unfold nameAt at e
  rw [list_app, list_app, list_app, list_app] at e
  have e1 := List.append_cancel_right e
  have e2 := List.append_cancel_left e1
  simpa using e2
theorem app_inj {x y z : Str} (h : x ++ z = y ++ z) : x = y := by
  have e : (x ++ z).cps.toList = (y ++ z).cps.toList := by rw [h]
  rw [list_app, list_app] at e
  exact str_ext (List.append_cancel_right e)
theorem nodup_map {α β : Type} {f : α → β} {l : List α} (hf : ∀ x y, f x = f y → x = y) (h : l.Nodup) : (l.map f).Nodup := by
  unfold List.Nodup at *
  rw [List.pairwise_map]
  exact h.imp fun n e => n (hf _ _ e)
def alpha : List Nat := [97, 98, 99, 100, 101, 102, 103, 104, 105, 106, 107, 108, 109, 110, 111, 112, 113, 114, 115, 116, 117, 118, 119, 120, 121, 122]
def ch (c : Nat) : V := .str ⟨#[c]⟩
theorem perm_erase {α : Type} : ∀ (l : List α) (j : Nat) (h : j < l.length), (l[j] :: l.eraseIdx j).Perm l
  | [], j, h => absurd h (Nat.not_lt_zero _)
  | x :: r, 0, _ => List.Perm.refl _
  | x :: r, j + 1, h => (List.Perm.swap x (r[j]'(Nat.lt_of_succ_lt_succ h)) _).trans ((perm_erase r j (Nat.lt_of_succ_lt_succ h)).cons x)
theorem erase_map {α β : Type} (f : α → β) : ∀ (l : List α) (j : Nat), (l.map f).eraseIdx j = (l.eraseIdx j).map f
  | [], _ => rfl
  | _ :: _, 0 => rfl
  | x :: r, j + 1 => congrArg (f x :: ·) (erase_map f r j)
theorem free_upd {H : Hp} {p q : Addr} {o : HO} (h : (upd H p o) q = none) : q ≠ p ∧ H q = none := by
  by_cases e : q = p
  · subst e
    rw [upd_same] at h
    cases h
  · rw [upd_ne e] at h
    exact ⟨e, h⟩
/-- what is taken and what is left of the alphabet -/
structure Left (cs ls : List Nat) : Prop where
  len : cs.length + ls.length = 26
  nd : (cs ++ ls).Nodup
  ltr : ∀ c ∈ cs ++ ls, 97 ≤ c ∧ c ≤ 122
theorem left0 : Left [] alpha := ⟨by decide, by decide, by decide⟩
theorem left_pop {cs ls : List Nat} (h : Left cs ls) {j : Nat} (hj : j < ls.length) : Left (cs ++ [ls[j]]) (ls.eraseIdx j) := by
  have pm : (cs ++ [ls[j]] ++ ls.eraseIdx j).Perm (cs ++ ls) := by
    rw [List.append_assoc]
    exact (perm_erase ls j hj).append_left cs
  refine ⟨?_, pm.nodup_iff.mpr h.nd, fun c hc => h.ltr c (pm.mem_iff.mp hc)⟩
  have := h.len
  rw [List.length_append, List.length_eraseIdx_of_lt hj]
  simp only [List.length_cons, List.length_nil]
  omega
def spNames : Sp := fun vs H Q _ => ∃ (b : Addr) (m : Nat), vs = [.ref b, .int (m : Int)] ∧ Bag H b ∧ m ≤ 26 ∧ ∀ (l : Addr) (xs : List Str) (H' : Hp), xs.length = m → (∀ z ∈ xs, NameOk z) → xs.Nodup → H l = none → l ≠ b → H' l = some (.lst (xs.map V.str)) → Ext b H H' → Q (.ref l) H'
section
variable {P : Program} {w : World} {K : PySem.W.Frag} {mg : Str → Option Value} {base : Heap}
abbrev s_names : Stmt := top 19
theorem sc_names : FnScope ["bag", "many", "left", "found", "stem", "turn", "place", "one"] ["bag", "many"] (defScope s_names) := ⟨rfl, rfl, rfl, by decide +kernel, rfl, by decide +kernel, by decide +kernel⟩
theorem ok_names {f : Addr} {fd : FuncData} (F : Fun K "_law_names" "_law_names" s_names f fd) (T : TxtB mg) (D_take : Def P w K mg base "_law_take" 1 ["bag", "many"] spTake) (D_of : Def P w K mg base "_law_of" 2 ["bag", "some"] spOf) : FnOk P w K mg base CX0 3 f fd ["bag", "many"] spNames := by
  refine F.ok sc_names (fun vs H Q E h => ?_) (fun cdv A outer s H vs Q E hr h => ?_)
  · obtain ⟨b, m, rfl, _⟩ := h
    rfl
  · obtain ⟨b, m, rfl, hb, hm, k⟩ := h
    refine ⟨_, (pss_cons (ps_par3 (i := 2) (j := 3) (l := 4) (by rfl) sc_names.nd rfl rfl rfl (by decide) (by decide) (by decide) rfl rfl rfl (pa_cons (pe_callTy (call_listS (by rfl)) (by rfl) T.b_list (by decide +kernel) (pa_cons pe_str pa_nil)) (pa_cons (pe_lst pa_nil) (pa_cons pe_str pa_nil))) (by rfl))
      (pss_cons (ps_for PassesOwn.never rfl (pi_range1 (by rfl) T.b_range (pa_cons (pe_call D_take.ok (hr.mono (by decide)) (by rfl) D_take.mg D_take.kp D_take.b .nil pass0 (pa_cons (pv 0) (pa_cons pe_int pa_nil))) pa_nil)) (pg_name (i := 5) sc_names.nd rfl (.inl rfl))
      (pss_one (ps_set (i := 4) sc_names.nd rfl (.inl rfl) (pe_op op_add_str (pv 4) (pe_call D_of.ok (hr.mono (by decide)) (by rfl) D_of.mg D_of.kp D_of.b .nil pass0 (pa_cons (pv 0) (pa_cons (pe_lst (pa_cons pe_str (pa_cons pe_str (pa_cons pe_str (pa_cons pe_str (pa_cons pe_str pa_nil)))))) pa_nil)))))))
      (pss_cons (ps_set (i := 6) sc_names.nd rfl (.inl rfl) (pe_call D_take.ok (hr.mono (by decide)) (by rfl) D_take.mg D_take.kp D_take.b .nil pass0 (pa_cons (pv 0) (pa_cons (pe_op op_add (pe_callB call_len_str (by rfl) T.b_len (by decide +kernel) (pa_cons (pv 4) pa_nil)) pe_int) pa_nil))))
      (pss_cons (ps_for PassesOwn.never rfl (pi_range1 (by rfl) T.b_range (pa_cons (pv 1) pa_nil)) (pg_name (i := 5) sc_names.nd rfl (.inl rfl))
      (pss_one (ps_expr (pe_bm PySem.F.plainAttrs_list PySem.F.slot_list_append PySem.F.type_list_append mt_append (pv 3) (pa_cons (pe_op op_add_str (pe_op op_add_str (pe_slice sl_str (pv 4) po_none (po_some (pv 6))) (pe_bm PySem.F.plainAttrs_list PySem.F.slot_list_pop PySem.F.type_list_pop mt_popAt (pv 2) (pa_cons (pe_call D_take.ok (hr.mono (by decide)) (by rfl) D_take.mg D_take.kp D_take.b .nil pass0 (pa_cons (pv 0) (pa_cons (pe_callB call_len_seq (by rfl) T.b_len (by decide +kernel) (pa_cons (pv 2) pa_nil)) pa_nil))) pa_nil))) (pe_slice sl_str (pv 4) (po_some (pv 6)) po_none)) pa_nil)))))
      (pss_one (ps_ret (pe_ifExp (pt_cmpR op_in_seq pe_str (pv 3) rfl) (pe_lc (own := [("one", 7)]) (g := gName 7) (by rfl) sc_names.nd (pi_list (pv 3)) (blkOk_by (own := [("one", 7)]) (N := ["bag", "many", "left", "found", "stem", "turn", "place", "one"]) (sc := defScope s_names) (by decide +kernel)) (fun _ _ _ _ _ => (pg_name (i := 7) sc_names.nd rfl (.inl rfl))) (fun _ _ _ _ _ => pts_nil) (fun _ _ _ _ _ => (pe_op op_add_str (pv 7) pe_str))) (pv 3)))))))), ?_⟩
    walk_at "rd"
    refine ⟨by decide +kernel, fun L nL => ?_⟩
    walk_at "rd"
    refine ⟨Nat.zero_le _, fun G nG => ?_⟩
    obtain ⟨nGL, nG0⟩ := free_upd nG
    have nLb : L ≠ b := ne_bag hb nL
    have nGb : G ≠ b := ne_bag hb nG0
    have ea : Ext b H (upd H L (.lst ((Str.ofString "abcdefghijklmnopqrstuvwxyz").cps.toList.map fun c => V.str ⟨#[c]⟩))) := ext_new hb nL
    have eb := ea.trans (ext_new (o := .lst []) ea.1 nG)
    have hL0 : (upd (upd H L (.lst ((Str.ofString "abcdefghijklmnopqrstuvwxyz").cps.toList.map fun c => V.str ⟨#[c]⟩))) G (.lst [])) L = some (.lst (alpha.map ch)) := by
      rw [upd_ne nGL.symm, upd_same]
      have : (Str.ofString "abcdefghijklmnopqrstuvwxyz").cps.toList = alpha := by decide +kernel
      rw [this]
      rfl
    have hG0 : (upd (upd H L (.lst ((Str.ofString "abcdefghijklmnopqrstuvwxyz").cps.toList.map fun c => V.str ⟨#[c]⟩))) G (.lst [])) G = some (.lst []) := upd_same
    revert eb hL0 hG0
    generalize upd (upd H L (.lst ((Str.ofString "abcdefghijklmnopqrstuvwxyz").cps.toList.map fun c => V.str ⟨#[c]⟩))) G (.lst []) = H2
    intro eb hL0 hG0
    walk_at "rd"
    refine ⟨_, _, _, rfl, ?_⟩
    walk_at "rd"
    refine ⟨b, _, rfl, eb.1, by decide, by decide, fun n H3 n0 n1 e3 => ?_⟩
    walk_at "rd"
    refine ⟨by omega, by omega, ?_⟩
    have hL3 := e3.2 _ _ hL0 nLb
    have hG3 := e3.2 _ _ hG0 nGb
    refine for_range (lo := 0) (n := n.toNat) (fun i σ H4 => ∃ (z : Str) (v5 : Option V), σ = [some (.ref b), some (.int m), some (.ref L), some (.ref G), some (.str z), v5, none, none] ∧ z.length = i ∧ Ltrs z ∧ Ext b H H4 ∧ H4 L = some (.lst (alpha.map ch)) ∧ H4 G = some (.lst []))
      ⟨_, none, rfl, by decide +kernel, by decide +kernel, eb.trans e3, hL3, hG3⟩ ?_ ?_
    · rintro i σ H4 hi ⟨z, v5, rfl, lz, tz, e4, hL, hG⟩
      walk_at "rd"
      refine ⟨by show 5 ≤ sizeLine; decide, fun p np => ?_⟩
      walk_at "rd"
      refine ⟨b, p, _, rfl, (ext_new e4.1 np).1, upd_same, ne_bag e4.1 np, by decide, by decide, fun v H5 hv e5 => ?_⟩
      have e45 := (ext_new (o := .lst [V.str "a", V.str "z", V.str "s", V.str "h", V.str "m"]) e4.1 np).trans e5
      obtain ⟨y, rfl, ly, ty⟩ : ∃ y : Str, v = .str y ∧ y.length = 1 ∧ Ltrs y := by
        simp only [List.mem_cons, List.not_mem_nil, or_false] at hv
        rcases hv with rfl | rfl | rfl | rfl | rfl
        all_goals exact ⟨_, rfl, by decide +kernel, by decide +kernel⟩
      refine ⟨_, _, rfl, rfl, Nat.le_trans (show z.length + y.length ≤ 1000 by omega) (by decide), ?_⟩
      walk_at "rd"
      exact ⟨_, _, rfl, by rw [len_app]; omega, ltrs_app tz ty, e4.trans e45, e45.2 _ _ hL nLb, e45.2 _ _ hG nGb⟩
    · rintro σ H4 ⟨z, v5, rfl, lz, tz, e4, hL, hG⟩
      walk_at "rd"
      refine ⟨Nat.le_trans (show z.length ≤ 1000 by omega) (by decide), ?_⟩
      walk_at "rd"
      refine ⟨b, _, rfl, e4.1, by omega, by omega, fun q H5 q0 q1 e5 => ?_⟩
      obtain ⟨p, rfl⟩ : ∃ p : Nat, q = (p : Int) := ⟨q.toNat, by omega⟩
      have hp : p ≤ z.length := by omega
      have hL5 := e5.2 _ _ hL nLb
      have hG5 := e5.2 _ _ hG nGb
      have hAB := cut_lens z hp
      have tA : Ltrs (cutS z none (some (p : Int))) := ltrs_cut tz
      have tB : Ltrs (cutS z (some (p : Int)) none) := ltrs_cut tz
      walk_at "rd"
      refine ⟨by omega, by omega, ?_⟩
      refine for_range (lo := 0) (n := m) (fun i σ H6 => ∃ (cs ls : List Nat) (v5 : Option V), σ = [some (.ref b), some (.int m), some (.ref L), some (.ref G), some (.str z), v5, some (.int p), none] ∧ cs.length = i ∧ Left cs ls ∧ Ext b H H6 ∧ H6 L = some (.lst (ls.map ch)) ∧ H6 G = some (.lst ((cs.map (nameAt (cutS z none (some (p : Int))) (cutS z (some (p : Int)) none))).map V.str)))
        ⟨[], alpha, _, rfl, rfl, left0, e4.trans e5, hL5, hG5⟩ ?_ ?_
      · rintro i σ H6 hi ⟨cs, ls, v5, rfl, lcs, lf, e6, hL6, hG6⟩
        have hls : ls.length = 26 - i := by have := lf.len; omega
        walk_at "rd"
        refine ⟨b, _, rfl, e6.1, by rw [List.length_map]; omega, by rw [List.length_map]; omega, fun j H7 j0 j1 e7 => ?_⟩
        rw [List.length_map] at j1
        have hj : j.toNat < ls.length := by omega
        have hL7 := e7.2 _ _ hL6 nLb
        have hG7 := e7.2 _ _ hG6 nGb
        refine ⟨L, _, j, j.toNat, ch ls[j.toNat], rfl, rfl, hL7, by omega, by omega, ?_, ?_, ?_⟩
        · rw [List.length_map]
          exact (ixN_seq (show ixN ls.length j = some j.toNat by unfold ixN; rw [if_pos j0, if_pos (by omega)])).1
        · rw [List.getElem?_map, List.getElem?_eq_getElem hj]
          rfl
        have e8 : Ext b H (upd H7 L (.lst ((ls.map ch).eraseIdx j.toNat))) := ext_set (e6.trans e7) nLb nL
        have hG8 : (upd H7 L (.lst ((ls.map ch).eraseIdx j.toNat))) G = some (.lst ((cs.map (nameAt (cutS z none (some (p : Int))) (cutS z (some (p : Int)) none))).map V.str)) := by
          rw [upd_ne nGL]
          exact hG7
        refine ⟨_, _, rfl, rfl, Nat.le_trans (show _ + 1 ≤ 1000 by omega) (by decide), ?_⟩
        walk_at "rd"
        refine ⟨_, _, rfl, rfl, Nat.le_trans (show _ ≤ 1000 by rw [len_app]; show _ + 1 + _ ≤ _; omega) (by decide), ?_⟩
        walk_at "rd"
        refine ⟨cs ++ [ls[j.toNat]], ls.eraseIdx j.toNat, _, rfl, by rw [List.length_append]; simp [lcs], left_pop lf hj, ext_set e8 nGb nG0, ?_, ?_⟩
        · rw [upd_ne nGL.symm, upd_same, erase_map]
        · rw [upd_same, List.map_append, List.map_append]
          rfl
      · rintro σ H6 ⟨cs, ls, v5, rfl, lcs, lf, e6, hL6, hG6⟩
        have hc : ∀ y ∈ cs.map (nameAt (cutS z none (some (p : Int))) (cutS z (some (p : Int)) none)), y.length = z.length + 1 ∧ Ltrs y := fun y hy => by
          obtain ⟨c, hc, rfl⟩ := List.mem_map.mp hy
          refine ⟨by rw [nameAt_len]; omega, nameAt_ltr tA tB (lf.ltr c (List.mem_append_left _ hc))⟩
        have hn : (cs.map (nameAt (cutS z none (some (p : Int))) (cutS z (some (p : Int)) none))).Nodup := nodup_map (fun _ _ => nameAt_inj) (List.nodup_append.mp lf.nd).1
        have hlen : (cs.map (nameAt (cutS z none (some (p : Int))) (cutS z (some (p : Int)) none))).length = m := by rw [List.length_map]; exact lcs
        revert hc hn hlen hG6
        generalize cs.map (nameAt (cutS z none (some (p : Int))) (cutS z (some (p : Int)) none)) = xs
        intro hG6 hc hn hlen
        walk_at "rd"
        refine ⟨G, _, rfl, .inl (SqL.of hG6), rfl, ?_, ?_⟩
        · rw [List.all_map]
          exact List.all_eq_true.mpr fun _ _ => rfl
        walk_at "rd"
        refine ite2 (fun c => ?_) (fun c => ?_)
        · walk_at "rd"
          refine ⟨⟨_, SqL.of hG6⟩, fun D nD => ?_⟩
          have nDb : D ≠ b := ne_bag e6.1 nD
          have nDG : D ≠ G := (ne_of_none hG6 nD).symm
          have nD0 : H D = none := by
            cases q : H D with
            | none => rfl
            | some o => rw [e6.2 _ _ q nDb] at nD; cases nD
          refine lc_it walk_list (fun i H7 => Ext b H H7 ∧ H7 G = some (.lst (xs.map V.str)) ∧ H7 D = some (.lst ((xs.take i).map fun y => V.str (y ++ ("q" : Str)))))
            ⟨e6.trans (ext_new e6.1 nD), by rw [upd_ne nDG.symm]; exact hG6, upd_same⟩ (fun _ _ _ h => SqL.of h.2.1) ?_ ?_
          · rintro i x H7 H8 hi ⟨e7, hG7, hD7⟩ ⟨rfl, hx⟩
            rw [List.length_map] at hi
            have hxi : x = .str xs[i] := by
              rw [List.getElem?_map, List.getElem?_eq_getElem hi] at hx
              exact (Option.some.inj hx).symm
            subst hxi
            obtain ⟨l1, t1⟩ := hc _ (List.getElem_mem hi)
            walk_at "rd"
            refine ⟨rfl, ?_⟩
            walk_at "rd"
            refine ⟨_, hD7, Nat.lt_of_le_of_lt (show _ ≤ 1000 by rw [List.length_map, List.length_take]; omega) (by decide), ext_set e7 nDb nD0, by rw [upd_ne nDG.symm]; exact hG7, ?_⟩
            rw [upd_same, List.take_add_one, List.getElem?_eq_getElem hi, List.map_append]
            rfl
          · rintro H7 ⟨e7, hG7, hD7⟩
            rw [List.length_map, List.take_length] at hD7
            refine k D (xs.map fun y => y ++ ("q" : Str)) H7 (by rw [List.length_map]; exact hlen) (fun y hy => ?_) (nodup_map (fun _ _ => app_inj) hn) nD0 nDb (by rw [hD7, List.map_map]; rfl) e7
            obtain ⟨x, hx, rfl⟩ := List.mem_map.mp hy
            obtain ⟨l1, t1⟩ := hc x hx
            have lq : ("q" : Str).length = 1 := by decide +kernel
            exact ⟨by rw [len_app]; omega, by rw [len_app]; omega, ltrs_app t1 (by decide +kernel), not_cash_q x⟩
        · walk_at "rd"
          refine k G xs H6 hlen (fun y hy => ?_) hn nG0 nGb hG6 e6
          obtain ⟨l1, t1⟩ := hc y hy
          refine ⟨by omega, by omega, t1, fun e => c ?_⟩
          subst e
          refine List.any_eq_true.mpr ⟨.str "cash", List.mem_map.mpr ⟨_, hy, rfl⟩, ?_⟩
          decide +kernel
end
end KK

namespace RX
open PySem PySem.Spec PyProof.Rows L2
/-! ### own rules -/
theorem rep_size (c : Array Nat) : ∀ (k : Nat) (acc : Array Nat), ((List.replicate k c).foldl (· ++ ·) acc).size = acc.size + k * c.size
  | 0, acc => by simp
  | k + 1, acc => by
    rw [List.replicate_succ, List.foldl_cons, rep_size c k (acc ++ c), Array.size_append, Nat.add_mul]
    omega
theorem rep_mem (c : Array Nat) (y : Nat) : ∀ (k : Nat) (acc : Array Nat), y ∈ ((List.replicate k c).foldl (· ++ ·) acc).toList → y ∈ acc.toList ∨ y ∈ c.toList
  | 0, acc, h => .inl (by simpa using h)
  | k + 1, acc, h => by
    rw [List.replicate_succ, List.foldl_cons] at h
    rcases rep_mem c y k (acc ++ c) h with h | h
    · rw [Array.toList_append] at h
      exact List.mem_append.mp h
    · exact .inr h
section
variable {X : Cx}
/-- isinstance(e, c), e the exception that the suite holds (its class cls, its dict d) -/
def rIsX (K : PySem.W.Frag) (a : Addr) (cls : Value) (d : Option Addr) : List V → Hp → VK → Prop := fun xs H Q => ∃ (D : Addr) (c : V) (cv : Value) (b : Bool) (dd : Addr) (fs : List (Str × V)),
  xs = [.ref a, c] ∧ cls = .ref D ∧ d = some dd ∧ H dd = some (.xd fs) ∧ ExcC K D ∧ (∀ u, RelV c u → u = cv) ∧ PySem.W.kitOne K (.ref D) cv = some b ∧ Q (.bl b) H
theorem call_isX {a : Addr} {oe : Obj} {pn : List (Addr × Obj)} {cls : Value} {d : Option Addr} (hz : Zc cls d oe) (hf : ∃ vs, oe.data = .fields vs) : CallR (X.suite a ((a, oe) :: pn)) (.builtin "isinstance") (rIsX X.K a cls d) := by
  intro pins s σ H xs us Q I r h
  obtain ⟨D, c, cv, b, dd, fs, rfl, rfl, rfl, hdd, T, hcv, e, q⟩ := h
  obtain ⟨u1, u2, rfl, r1, r2⟩ := vals2 r
  cases (show u1 = Value.ref a from r1)
  have e2 := hcv _ r2
  subst e2
  have hget := (I.pin (a, oe) (List.mem_append.mpr (.inl List.mem_cons_self))).1
  obtain ⟨vs, hd⟩ := hf
  obtain ⟨mA, hns, _⟩ := (show ObjOk X.prog X.w H s.heap dd (.xd fs) from I.hok dd _ hdd)
  obtain ⟨od, ho, _⟩ := lookIn_ns hns
  have J : PySem.W.InstAt s.heap a oe D (some od) := ⟨hget, hz.1, by unfold PySem.W.notCls; rw [hd] <;> rfl, by rw [hz.2]; exact ho⟩
  have hc : (PySem.W.clsIn X.K D).isSome = true := by
    obtain ⟨cd, hc, _⟩ := PySem.W.any_some T.hd
    rw [hc] <;> rfl
  exact PySem.W.kia_one (PySem.W.kitx_exc hc T.hg T.hk T.hs T.ha T.hn T.ht T.hm) I.kIn J e (fun z => nomatch z) fun tk => ⟨.bl b, H, I.kept (t' := tk) fun _ _ z => z, rfl, q⟩
/-- text * n -/
def rMulS : R2 := fun x y H Q => ∃ (z : Str) (n : Int), x = .str z ∧ y = .int n ∧ 2 ≤ n ∧ n ≤ 1000 ∧ 1 ≤ z.length ∧ z.length ≤ 1000 ∧ Q (.str ⟨(List.replicate n.toNat z.cps).foldl (· ++ ·) #[]⟩) H
theorem op_mulS : OpR X (binaryOp .Mult) rMulS := by
  intro pins s σ H x y v u Q I rx ry h
  obtain ⟨z, n, rfl, rfl, n0, n1, z0, z1, q⟩ := h
  obtain ⟨t, rfl⟩ := rx
  obtain ⟨t', rfl⟩ := ry
  have c1 : ¬ n < 1 := by omega
  have c2 : ¬ (n == 1 || z.length == 0) = true := by simp; omega
  have hp : z.length * n.toNat ≤ 1000 * 1000 := Nat.mul_le_mul z1 (by omega)
  refine PySem.P.mul_str (by rw [decide_eq_false (by omega), decide_eq_false (by omega)]; rfl) (fun _ _ => ?_) (fun _ _ => ?_) ?_
  · have : (1000 : Int) ≤ (2 ^ 63 - 1) / n := by
      rw [Int.le_ediv_iff_mul_le (by omega)]
      omega
    omega
  · first
      | exact decide_eq_false (Nat.not_lt.mpr (Nat.le_trans hp (by decide)))
      | (unfold tooLong; exact decide_eq_false (Nat.not_lt.mpr (Nat.le_trans hp (by decide))))
  · rw [if_neg c1, if_neg c2]
    refine ⟨?_, .str _, H, I.tok _, ⟨_, rfl⟩, q⟩
    show ((List.replicate n.toNat z.cps).foldl (· ++ ·) #[]).size ≤ sizeLine
    rw [rep_size, Nat.mul_comm]
    exact Nat.le_trans (show 0 + z.length * n.toNat ≤ 1000 * 1000 by omega) (by decide)
/-! ### C(e, ..) whose __init__ may raise, within a try: what is raised is wished for at the slots -/
def tMakeS (C : Addr) (sp : Sp) (E : L2.St → XK) (t : TA) : TE := fun σ H Q => t σ H fun vs H1 => ∀ x dx, H1 x = none → H1 dx = none → dx ≠ x →
  sp (.ref x :: vs) (upd (upd H1 dx (.own x)) x (.ins C dx [])) (fun v H2 => v = .non ∧ Q (.ref x) H2) (E σ)
variable {CX : CXT} {k : Nat} {f C : Addr} {fd : FuncData} {ps : List Str} {sp : Sp} {E : L2.St → XK} {x m : Str} {p pos apos : Pos} {e o : Expr} {es : List Expr} {ta : TE} {t : TA}
theorem run_makeS {pins : List (Addr × Obj)} {σ : L2.St} {H : Hp} {s : Shared} {Q : VK} {us : List Value} {vs : List V} (M : Mk X.K C f) (G : FnOk X.prog X.w X.K X.mg X.base CX k f fd ps sp) (room : Room (k + 1) X.A) (bd : Binds X.K fd ps [])
    (hx : PassesAt CX X σ (E σ)) (I : Inv X pins σ H s) (r : Vals vs us)
    (h : ∀ x dx, H x = none → H dx = none → dx ≠ x → sp (.ref x :: vs) (upd (upd H dx (.own x)) x (.ins C dx [])) (fun v H2 => v = .non ∧ Q (.ref x) H2) (E σ)) :
    wpAny (model X.prog X.w) X.A (call (.ref C) us) (EP X pins σ Q) X.xe s := by
  let n := s.heap.objs.size
  have q0 := h (n + 1) n (I.hok.fresh (Nat.le_succ _)) (I.hok.fresh (Nat.le_refl _)) (Nat.ne_of_lt (Nat.lt_succ_self _))
  have J := Inv.made (C := C) I
  have rr : Vals (V.ref (n + 1) :: vs) (Value.ref (n + 1) :: us) := .cons rfl r
  have hl : (Value.ref (n + 1) :: us).length = ps.length := by
    rw [← rr.length]
    exact G.len _ _ _ _ q0
  have hb2 := bd _ (Value.ref (n + 1) :: us) J.kIn (by rw [List.append_nil]; exact hl)
  rw [List.append_nil] at hb2
  have run := G.run _ X.stack _ _ ⟨Value.ref (n + 1) :: us, []⟩ (Value.ref (n + 1) :: us) _ _ (E σ) (room.make C us []) (J.env0.make C us []) hb2 rr q0
  refine wpAny_call (make_map (f := f) I.kIn M.makes M.init (beq_iff_eq.mp M.fn) (codeAny_mono run fun r' s' z => ?_))
  cases r' with
  | error er => exact hx pins _ _ er s' J z
  | ok fl =>
    cases fl with
    | next => exact False.elim z
    | brk => exact False.elim z
    | cont => exact False.elim z
    | ret u =>
      obtain ⟨v, H', J', rv, ev, q3⟩ := J.after z
      subst ev
      exact ⟨rv, ⟨V.ref (n + 1), H', J', rfl, q3⟩⟩
theorem pe_makeS (M : Mk X.K C f) (G : FnOk X.prog X.w X.K X.mg X.base CX k f fd ps sp) (room : Room (k + 1) X.A) (hg : Gl X x) (hm : X.mg x = some (.ref C)) (bd : Binds X.K fd ps []) (hx : ∀ σ, PassesAt CX X σ (E σ)) (ha : PA X (e :: es) t)
    (hdb : (x == ("__debug__" : Str)) = false := by decide) (he : starEach (e :: es) X.env = (false, eval e X.env) :: starEach es X.env := by rfl) (hpl : (backTo pos (starEach es X.env)).any (·.1) = false := by rfl) :
    PE X (.Call (.Name x p) (e :: es) [] pos) (tMakeS C sp E t) :=
  ⟨fun pins s σ H Q I h => wpAny_Call_Name_kw (ld_glob I hg hm (PySem.W.callWith_K (h₀ := X.base) I.ok.mod.kin M.kp
    (thn (ha.run pos pins s σ H _ I h) fun us s1 ⟨vs, H1, I1, r, q⟩ => ⟨I1.kIn, run_makeS M G room bd (hx σ) I1 r q⟩) he hpl) hdb)⟩
/-! ### o.m(e, ..), a method that may raise, within a try -/
def tMethX (C : Addr) (m : Str) (sp : Sp) (E : L2.St → XK) (ta : TE) (t : TA) : TE := fun σ H Q => ta σ H fun x H1 => ∃ a dx fs, x = .ref a ∧ H1 a = some (.ins C dx fs) ∧ fs.lookup m = none ∧ t σ H1 fun vs H2 => sp (x :: vs) H2 Q (E σ)
theorem pe_methX {pl : Sem Bool} (he : PE X o ta) (c : Cls X.K C) (hm : Meth X.K C m f) (G : FnOk X.prog X.w X.K X.mg X.base CX k f fd ps sp) (room : Room k X.A) (bd : Binds X.K fd ps []) (hx : ∀ σ, PassesAt CX X σ (E σ)) (ha : PA X (e :: es) t)
    (hst : starEach (e :: es) X.env = (false, eval e X.env) :: starEach es X.env := by rfl) (hpl : (backTo pos (starEach es X.env)).any (·.1) = false := by rfl)
    (ht : eval (.Call (.Attribute o m apos) (e :: es) [] pos) X.env = (do
      let ov ← eval o X.env
      standAt apos.atName
      let (f, first) ← holding [ov] (getMethod ov m pl)
      callWith pos f first (backTo pos (starEach (e :: es) X.env)) (backToKw pos (keywordEach [] X.env))) := by rfl) :
    PE X (.Call (.Attribute o m apos) (e :: es) [] pos) (tMethX C m sp E ta t) := by
  refine ⟨fun pins s σ H Q I h => PySem.W.methodCall_KW (pl := pl) (thn (he.run pins s σ H _ I h) fun u s1 ⟨x, H1, I1, rx, a, dx, fs, ex, ea, l, q⟩ => ?_) ht⟩
  subst ex
  cases (show u = Value.ref a from rx)
  refine getmeth_ok I1 ea c hm l (PySem.W.callWith_K (first := [.ref a]) (h₀ := X.base) I.ok.mod.kin hm.kp (thn (ha.run pos pins s1 σ H1 _ I1 q) fun us s2 ⟨vs, H2, I2, r, q2⟩ => ⟨I2.kIn, ?_⟩) hst hpl)
  exact run_fnS G room bd (hx σ) I2 (.cons (show RelV (V.ref a) (Value.ref a) from rfl) r) q2
/-! ### == by an own __eq__ -/
/-- what the other operand may be -/
inductive OtherV (K : PySem.W.Frag) (H : Hp) (C : Addr) : V → Value → Prop where
  | val {y : V} {t : Value} (h : TyX K H y t) : OtherV K H C y t
  | own {b dy : Addr} {ws : List (Str × V)} (h : H b = some (.ins C dy ws)) : OtherV K H C (.ref b) (.ref C)
def rEqO (K : PySem.W.Frag) (C : Addr) (sp : Sp) (Er : XK) : R2 := fun x y H Q => ∃ a dx fs t, x = .ref a ∧ H a = some (.ins C dx fs) ∧ OtherV K H C y t ∧ PySem.W.notFirst K C t = true ∧ sp [x, y] H Q Er
theorem op_eqO {Er : XK} (hs : PySem.W.findIn X.K (.ref C) "__eq__" = some (some (.ref f))) (hf : PySem.W.isFn X.K (.ref f) = true) (G : FnOk X.prog X.w X.K X.mg X.base CX k f fd ps sp) (room : Room k X.A) (bd : Binds X.K fd ps []) (hx : Passes CX X Er) :
    OpR X (compareOp .Eq) (rEqO X.K C sp Er) := by
  intro pins s σ H x y v u Q I rx ry h
  obtain ⟨a, dx, fs, t, rfl, ha, hy, hn, q⟩ := h
  cases (show v = Value.ref a from rx)
  obtain ⟨mA, O, _⟩ := ins_get I.hok ha
  obtain ⟨od, J, _⟩ := O.look
  have ty : PySem.W.Looks (model X.prog X.w) s.heap (typeOf u) t := by
    cases hy with
    | val h =>
      obtain ⟨P, Z, p, _⟩ := kit_of I ry h
      exact Z.ty _ _ I.kIn p
    | own h =>
      cases (show u = Value.ref _ from ry)
      obtain ⟨mB, O', _⟩ := ins_get I.hok h
      obtain ⟨od', J', _⟩ := O'.look
      exact J'.type
  obtain ⟨m', hF⟩ := I.fr
  refine PySem.W.cmp_K (op := .Eq) room.units0 hF I.ok.mod.kin J ty hn hs hf ?_
  refine wpAny_mono (run_fnS (E := fun _ => Er) G room bd (fun pins H s e s' I c => hx pins σ H s e s' I c) I (.cons (show RelV (V.ref a) (Value.ref a) from rfl) (.cons ry .nil)) q) (fun w s' z => ?_) fun _ _ x => x
  obtain ⟨z', H', I', rz, qz⟩ := z
  exact SlX.cmpback rz ⟨z', H', I', rz, qz⟩
end
/-! ### != by an own __eq__ -/
theorem ns_of {K : PySem.W.Frag} {h : Heap} {N : Addr} {mg : Str → Option Value} {n : Str} {v : Value} (X : K.In h) (G : h.Ns N mg) (e : PySem.W.nsIn K N n = some (some v)) : mg n = some v := by
  obtain ⟨o, es, ep, ho, hd, _, hf⟩ := G
  unfold PySem.W.nsIn at e
  split at e
  · rename_i c d es' n' sl q
    have := X _ _ q
    rw [ho] at this
    cases this
    cases hd
    split at e
    · rename_i en he
      cases e
      rw [← hf]
      unfold nsFind findBy
      rw [← Array.find?_toList, he]
      rfl
    · split at e <;> cases e
  · cases e
structure NeC (K : PySem.W.Frag) (C f : Addr) : Prop where
  ex : ∃ nm q N bs hdct sn sub ab col dd k0 k1 k2 k3 k5 newId, K.lookup C = some (excClassObj nm q C N bs [.type "object"] hdct sn sub ab col dd k0 k1 k2 k3 k5 newId) ∧ PySem.W.nsOkIn K N = true ∧ PySem.W.nsIn K N "__eq__" = some (some (.ref f)) ∧ PySem.W.nsIn K N "__ne__" = some none
  fn : ∃ of, K.lookup f = some of ∧ of.cls = .type "function"
def rNeO (C : Addr) (sp : Sp) (Er : XK) : R2 := fun x y H Q => ∃ a dx fs b dy gs, x = .ref a ∧ y = .ref b ∧ H a = some (.ins C dx fs) ∧ H b = some (.ins C dy gs) ∧ sp [x, y] H (fun z H' => ∃ c, z = .bl c ∧ Q (.bl (!c)) H') Er
section
variable {X : Cx} {CX : CXT} {k : Nat} {f C : Addr} {fd : FuncData} {ps : List Str} {sp : Sp}
theorem op_neO {Er : XK} (N : NeC X.K C f) (G : FnOk X.prog X.w X.K X.mg X.base CX k f fd ps sp) (room : Room (k + 1) X.A) (bd : Binds X.K fd ps []) (hx : Passes CX X Er) : OpR X (compareOp .NotEq) (rNeO C sp Er) := by
  intro pins s σ H x y v u Q I rx ry h
  obtain ⟨a, dx, fs, b, dy, gs, rfl, rfl, ha, hb, q⟩ := h
  cases (show v = Value.ref a from rx)
  cases (show u = Value.ref b from ry)
  obtain ⟨mA, O, _⟩ := ins_get I.hok ha
  obtain ⟨od, J, _⟩ := O.look
  obtain ⟨mB, O', _⟩ := ins_get I.hok hb
  obtain ⟨od', J', _⟩ := O'.look
  obtain ⟨nm, qn, NS, bs, hdct, sn, sub, ab, col, dd, k0, k1, k2, k3, k5, newId, hC, hN, hE, hNe⟩ := N.ex
  obtain ⟨of, hf, hfc⟩ := N.fn
  have G1 : s.heap.Ns NS (s.heap.nsMap NS) := .of_isNs (PySem.W.isNs_of_in I.kIn hN)
  have Y : s.heap.OwnEqNoNe a C f "object" [.type "object"] := ⟨_, of, nm, qn, NS, bs, hdct, sn, sub, ab, col, dd, k0, k1, k2, k3, k5, newId, _, _, J.1, J.2, I.kIn _ _ hC, G1, ns_of I.kIn G1 hE, I.kIn _ _ hf, hfc, PySem.F.cmp_object.mro, PySem.F.cmp_object.eq.lookup, PySem.W.ns_none_of I.kIn G1 hNe⟩
  have run : wpAny (model X.prog X.w) X.A.in1 (call (.ref f) [.ref a, .ref b]) (fun v s' => ∃ c, v = .bool c ∧ EP X pins σ Q (.bool (!c)) s') X.xe s := by
    have r : Vals [V.ref a, V.ref b] [Value.ref a, Value.ref b] := .cons rfl (.cons rfl .nil)
    have hl : [Value.ref a, Value.ref b].length = ps.length := by rw [← r.length]; exact G.len _ _ _ _ q
    have b' := bd s [.ref a, .ref b] I.kIn (by rw [List.append_nil]; exact hl)
    rw [List.append_nil] at b'
    refine wpAny_call (codeAny_mono (G.run X.A.in1 X.stack s H ⟨[.ref a, .ref b], []⟩ _ _ _ Er room.in1 I.env0.in1 b' r q) fun r' s' hq => ?_)
    cases r' with
    | error e => exact hx pins σ H s e s' I hq
    | ok fl =>
      cases fl with
      | ret u =>
        obtain ⟨z, H', J2, rz, c, ez, q2⟩ := I.after hq
        subst ez
        exact ⟨c, rz, ⟨V.bl (!c), H', J2, rfl, q2⟩⟩
      | next => exact False.elim hq
      | brk => exact False.elim hq
      | cont => exact False.elim hq
  obtain ⟨hh, g, d, t, os⟩ := s
  exact compareOp_ne_ownEq PySem.F.cmp_object Y J'.1 J'.2 (by have := room.units; omega) run
end
theorem ix_listT {X : Cx} {pn : List (Addr × Obj)} {xe : Value → Shared → Prop} : IxR (X.tr pn xe) (rIxL X.K) := ix_list (X := X.tr pn xe)
theorem mkS {C : Addr} {sp : Sp} {E : L2.St → XK} {t : TA} {σ : L2.St} {H : Hp} {Q : VK} {R : List V → Hp → Prop} (e : tMakeS C sp E t σ H Q = t σ H R) (h : t σ H R) : tMakeS C sp E t σ H Q := by
  rw [e]
  exact h
theorem methS {C : Addr} {m : Str} {sp : Sp} {E : L2.St → XK} {ta : TE} {t : TA} {σ : L2.St} {H : Hp} {Q : VK} {R : VK} (e : tMethX C m sp E ta t σ H Q = ta σ H R) (h : ta σ H R) : tMethX C m sp E ta t σ H Q := by
  rw [e]
  exact h
theorem xf {a : Addr} {cls : Value} {d : Option Addr} {C : Addr} {f : Str} {te : TE} {σ : L2.St} {H : Hp} {Q : VK} (h : te σ H fun x H1 => x = .ref a ∧ cls = .ref C ∧ ∃ (dd : Addr) (fs : List (Str × V)) (v : V), d = some dd ∧ H1 dd = some (.xd fs) ∧ fs.lookup f = some v ∧ Q v H1) : tXf a cls d C f te σ H Q := h
end RX

namespace KK
open PySem PySem.Spec PyProof.Rows L2
/-! ### any argument -/
inductive Flat : V → Prop where
  | int (n : Int) : Flat (.int n)
  | str {z : Str} (h : PyData.strOk z = true) : Flat (.str z)
inductive Arg (H : Hp) : V → Prop where
  | str {z : Str} (h : z.length ≤ 1000) (k : PyData.strOk z = true) : Arg H (.str z)
  | int (n : Int) : Arg H (.int n)
  | bl (b : Bool) : Arg H (.bl b)
  | non : Arg H .non
  | lst {p : Addr} {x : V} (h : H p = some (.lst [x])) (f : Flat x) : Arg H (.ref p)
  | tup {p : Addr} {x : V} (h : H p = some (.tup [x])) (f : Flat x) : Arg H (.ref p)
theorem Arg.keep {H H' : Hp} {x : V} (a : Arg H x) (k : ∀ p u, H p = some u → (∃ y, u = .lst [y]) ∨ (∃ y, u = .tup [y]) → H' p = some u) : Arg H' x := by
  cases a with
  | str h k => exact .str h k
  | int n => exact .int n
  | bl b => exact .bl b
  | non => exact .non
  | lst h f => exact .lst (k _ _ h (.inl ⟨_, rfl⟩)) f
  | tup h f => exact .tup (k _ _ h (.inr ⟨_, rfl⟩)) f
theorem Arg.same {H H' : Hp} {x : V} (a : Arg H x) (s : Same H H') : Arg H' x := a.keep fun p u e _ => s p u e
theorem Arg.ext {H H' : Hp} {b : Addr} {x : V} (a : Arg H x) (hb : Bag H b) (e : Ext b H H') : Arg H' x := a.keep fun p u h s => e.2 p u h fun z => by
  subst z
  obtain ⟨i, j, q⟩ := hb
  rw [q] at h
  cases h
  rcases s with ⟨y, s⟩ | ⟨y, s⟩ <;> cases s
theorem flat_dp {K : PySem.W.Frag} {H : Hp} {x : V} (f : Flat x) : ∃ d, Dp K H x d ∧ d.canLay0 = true ∧ d.depth ≤ 1 := by
  cases f with
  | int n => exact ⟨_, .int n, rfl, by simp [PyData.depth]⟩
  | str h => exact ⟨_, .str _, by simp only [PyData.canLay0]; exact h, by simp [PyData.depth]⟩
theorem Arg.ne_dp {K : PySem.W.Frag} {H : Hp} {x : V} (a : Arg H x) {y : Str} (hy : PyData.strOk y = true) : ∃ d e, Dp K H x d ∧ Dp K H (.str y) e ∧ SeqAt.shaped d = true ∧ SeqAt.shaped e = true ∧ (PyData.eqv d e = decide (x = .str y)) := by
  have ey : SeqAt.shaped (.str y) = true := by
    show PyData.canLay0 (.str y) && decide ((PyData.str y).depth ≤ 64) = true
    simp only [PyData.canLay0]
    rw [hy]
    simp [PyData.depth]
  cases a with
  | @str z h k =>
    refine ⟨_, _, .str z, .str y, ?_, ey, ?_⟩
    · show PyData.canLay0 (.str z) && decide ((PyData.str z).depth ≤ 64) = true
      simp only [PyData.canLay0]
      rw [k]
      simp [PyData.depth]
    · rw [Bool.eq_iff_iff]
      simp [PyData.eqv]
  | int n => exact ⟨_, _, .int n, .str y, by simp [SeqAt.shaped, PyData.canLay0, PyData.depth], ey, by simp [PyData.eqv]⟩
  | bl b => exact ⟨_, _, .bl b, .str y, by simp [SeqAt.shaped, PyData.canLay0, PyData.depth], ey, by simp [PyData.eqv]⟩
  | non => exact ⟨_, _, .non, .str y, by simp [SeqAt.shaped, PyData.canLay0, PyData.depth], ey, by simp [PyData.eqv]⟩
  | @lst p x h f =>
    obtain ⟨d, h1, h2, h3⟩ := flat_dp (K := K) (H := H) f
    refine ⟨_, _, .lst (SqL.of h) (.cons h1 .nil), .str y, ?_, ey, by simp [PyData.eqv]⟩
    simp only [SeqAt.shaped, PyData.canLay0, PyData.canLayAll0, PyData.depth, PyData.depthAll, h2, Bool.true_and, Bool.and_true]
    simp
    omega
  | @tup p x h f =>
    obtain ⟨d, h1, h2, h3⟩ := flat_dp (K := K) (H := H) f
    refine ⟨_, _, .tup (SqT.of h) (.cons h1 .nil), .str y, ?_, ey, by simp [PyData.eqv]⟩
    simp only [SeqAt.shaped, PyData.canLay0, PyData.canLayAll0, PyData.depth, PyData.depthAll, h2, Bool.true_and, Bool.and_true]
    simp
    omega
/-! ### an order's attributes, of whatever kind -/
structure RV where
  m : V
  t : V
  s : V
  c : V
  l : V
def afl (r : RV) : List (Str × V) := putF "limit" r.l (putF "count" r.c (putF "side" r.s (putF "thing" r.t (putF "member" r.m []))))
theorem n_ml : ¬ (("member" : Str) = "limit") := by decide +kernel
theorem n_mc : ¬ (("member" : Str) = "count") := by decide +kernel
theorem n_ms : ¬ (("member" : Str) = "side") := by decide +kernel
theorem n_mt : ¬ (("member" : Str) = "thing") := by decide +kernel
theorem n_tl : ¬ (("thing" : Str) = "limit") := by decide +kernel
theorem n_tc : ¬ (("thing" : Str) = "count") := by decide +kernel
theorem n_ts : ¬ (("thing" : Str) = "side") := by decide +kernel
theorem n_sl : ¬ (("side" : Str) = "limit") := by decide +kernel
theorem n_sc : ¬ (("side" : Str) = "count") := by decide +kernel
theorem n_cl : ¬ (("count" : Str) = "limit") := by decide +kernel
theorem fl_m (r : RV) : (afl r).lookup ("member" : Str) = some r.m := by
  unfold afl
  rw [lookup_putF, if_neg n_ml, lookup_putF, if_neg n_mc, lookup_putF, if_neg n_ms, lookup_putF, if_neg n_mt, lookup_putF, if_pos rfl]
theorem fl_t (r : RV) : (afl r).lookup ("thing" : Str) = some r.t := by
  unfold afl
  rw [lookup_putF, if_neg n_tl, lookup_putF, if_neg n_tc, lookup_putF, if_neg n_ts, lookup_putF, if_pos rfl]
theorem fl_s (r : RV) : (afl r).lookup ("side" : Str) = some r.s := by
  unfold afl
  rw [lookup_putF, if_neg n_sl, lookup_putF, if_neg n_sc, lookup_putF, if_pos rfl]
theorem fl_c (r : RV) : (afl r).lookup ("count" : Str) = some r.c := by
  unfold afl
  rw [lookup_putF, if_neg n_cl, lookup_putF, if_pos rfl]
theorem fl_l (r : RV) : (afl r).lookup ("limit" : Str) = some r.l := by
  unfold afl
  rw [lookup_putF, if_pos rfl]
theorem mem_alpha {c : Nat} : c ∈ (Str.ofString "abcdefghijklmnopqrstuvwxyz").cps.toList ↔ 97 ≤ c ∧ c ≤ 122 := by
  have : (Str.ofString "abcdefghijklmnopqrstuvwxyz").cps.toList = alpha := by decide +kernel
  rw [this]
  simp only [alpha, List.mem_cons, List.not_mem_nil, or_false]
  omega
/-! ### promises -/
def isNm (z : Str) : Bool := decide (1 ≤ z.length ∧ z.length ≤ 12 ∧ Ltrs z)
def isTh (z : Str) : Bool := isNm z && decide (z ≠ "cash")
def nmV : V → Bool
  | .str z => isNm z
  | _ => false
def thV : V → Bool
  | .str z => isTh z
  | _ => false
def sdV : V → Bool
  | .str z => decide (z = "buy" ∨ z = "sell")
  | _ => false
def inV : V → Bool
  | .int _ => true
  | _ => false
def whV (lo hi : Int) : V → Bool
  | .int n => decide (lo ≤ n ∧ n ≤ hi)
  | _ => false
def bad (r : RV) : Option Str :=
  if nmV r.m = false then some "member" else if thV r.t = false then some "thing" else if sdV r.s = false then some "side" else if whV 1 1000000 r.c = false then some "count" else if whV (-1000000000000) 1000000000000 r.l = false then some "limit" else none
structure Args (H : Hp) (r : RV) : Prop where
  m : Arg H r.m
  t : Arg H r.t
  s : Arg H r.s
  c : Arg H r.c
  l : Arg H r.l
theorem Args.same {H H' : Hp} {r : RV} (a : Args H r) (s : Same H H') : Args H' r := ⟨a.m.same s, a.t.same s, a.s.same s, a.c.same s, a.l.same s⟩
theorem Args.ext {H H' : Hp} {b : Addr} {r : RV} (a : Args H r) (hb : Bag H b) (s : Ext b H H') : Args H' r := ⟨a.m.ext hb s, a.t.ext hb s, a.s.ext hb s, a.c.ext hb s, a.l.ext hb s⟩
def spIsName : Sp := fun vs H Q _ => ∃ x : V, vs = [x] ∧ Arg H x ∧ ∀ H', Same H H' → Q (.bl (nmV x)) H'
def spIsThing : Sp := fun vs H Q _ => ∃ x : V, vs = [x] ∧ Arg H x ∧ ∀ H', Same H H' → Q (.bl (thV x)) H'
def spIsInt : Sp := fun vs H Q _ => ∃ x : V, vs = [x] ∧ Arg H x ∧ Q (.bl (inV x)) H
def spWhole : Sp := fun vs H Q _ => ∃ (x : V) (lo hi : Int), vs = [x, .int lo, .int hi] ∧ Arg H x ∧ Q (.bl (whV lo hi x)) H
def what (wd : Str) : List (Str × V) := [("what", .str wd)]
def spBinit (B : Addr) : Sp := fun vs H Q _ => ∃ (a : Addr) (wd : Str), vs = [.ref a, .str wd] ∧ H a = some (exo a B none) ∧ ∀ d, H d = none → d ≠ a → Q .non (upd (upd H d (exd d (what wd))) a (exo a B (some d)))
structure TxtO (K : PySem.W.Frag) (mg : Str → Option Value) (C B : Addr) : Prop where
  b_int : mg "int" = none
  b_bool : mg "bool" = none
  b_str : mg "str" = none
  b_len : mg "len" = none
  b_all : mg "all" = none
  b_isinstance : mg "isinstance" = none
  k_MOST : ∃ t, mg "MOST" = some (.int 1000000000000 t)
  k_MOST_COUNT : ∃ t, mg "MOST_COUNT" = some (.int 1000000 t)
  k__CASH : ∃ t, mg "_CASH" = some (.str "cash" t)
  k__LETTERS : ∃ t, mg "_LETTERS" = some (.str "abcdefghijklmnopqrstuvwxyz" t)
  k__LONGEST_NAME : ∃ t, mg "_LONGEST_NAME" = some (.int 12 t)
  c_Order : mg "Order" = some (.ref C)
  c_BadOrder : mg "BadOrder" = some (.ref B)
  cl_Order : Cls K C
  na : ∀ f ∈ (["member", "thing", "side", "count", "limit"] : List Str), NoAttr K C f
  rd : ∃ mc, ClX.CRead K C mc ∧ (∃ u, ClX.CVal K C mc "BUY" (.str "buy") u) ∧ ∃ u, ClX.CVal K C mc "SELL" (.str "sell") u
  oex : OexC K B
  nwhat : PySem.W.findIn K (.ref B) "what" = some none
  isi : SlX.SIsi K C
  ko : PySem.W.kitOne K (.ref C) (.ref C) = some true
  kt : ∀ n ∈ (["NoneType", "int", "list", "tuple", "str"] : List String), PySem.W.kitOne K (.type n) (.ref C) = some false
structure PDef (P : Program) (w : World) (K : PySem.W.Frag) (mg : Str → Option Value) (base : Heap) (C : Addr) (x : Str) (k : Nat) (sp : Sp) where
  p : Addr
  f : Addr
  fd : FuncData
  po : PropOf K C x p f
  ok : FnOk P w K mg base CX0 k f fd ["self"] sp
  b : Binds K fd ["self"] []
/-- an error's own __init__ -/
structure EDef (P : Program) (w : World) (K : PySem.W.Frag) (mg : Str → Option Value) (base : Heap) (B : Addr) (k : Nat) (ps : List Str) (sp : Sp) where
  f : Addr
  fd : FuncData
  ini : PySem.W.findIn K (.ref B) "__init__" = some (some (.ref f))
  ty : PySem.W.typeIn K (.ref f) = some (.type "function")
  ok : FnOk P w K mg base CX0 k f fd ps sp
  b : Binds K fd ps []
section
variable {P : Program} {w : World} {K : PySem.W.Frag} {mg : Str → Option Value} {base : Heap} {C B : Addr}
abbrev s_isname : Stmt := top 11
theorem sc_isname : FnScope ["thing", "letter"] ["thing"] (defScope s_isname) := ⟨rfl, rfl, rfl, by decide +kernel, rfl, by decide +kernel, by decide +kernel⟩
theorem ok_isname {f : Addr} {fd : FuncData} (F : Fun K "is_name" "is_name" s_isname f fd) (T : TxtO K mg C B) : FnOk P w K mg base CX0 1 f fd ["thing"] spIsName := by
  refine F.ok sc_isname (fun vs H Q E h => ?_) (fun cdv A outer s H vs Q E hr h => ?_)
  · obtain ⟨z, rfl, _⟩ := h
    rfl
  · obtain ⟨x, rfl, ax, k⟩ := h
    obtain ⟨_, k__LETTERS⟩ := T.k__LETTERS
    obtain ⟨_, k__LONGEST_NAME⟩ := T.k__LONGEST_NAME
    refine ⟨_, (pss_cons (ps_if (PW.pt (pw_or (pt_not (pt_val (pe_callB call_isi (by rfl) T.b_isinstance (by decide +kernel) (pa_cons (pv 0) (pa_cons (pe_bltn (v := .ty "str") (by rfl) T.b_str (by decide +kernel) rfl) pa_nil))))) (pw_or1 (pt_not (pt_chain op_le op_le pe_int (pe_callB call_len_str (by rfl) T.b_len (by decide +kernel) (pa_cons (pv 0) pa_nil)) (pe_glob (v := (.int 12)) rfl k__LONGEST_NAME ⟨_, rfl⟩)))))) (pss_one (ps_ret pe_bl)) pss_nil)
      (pss_one (ps_ret (pe_callB (cr_all rfl) (by rfl) T.b_all (by decide +kernel) (pa_cons (pe_lc (own := [("letter", 1)]) (g := gName 1) (by rfl) sc_isname.nd (pi_str (pv 0)) (blkOk_by (own := [("letter", 1)]) (N := ["thing", "letter"]) (sc := defScope s_isname) (by decide +kernel)) (fun _ _ _ _ _ => (pg_name (i := 1) sc_isname.nd rfl (.inl rfl))) (fun _ _ _ _ _ => pts_nil) (fun _ _ _ _ _ => (pe_cmpR op_in_sign (pv 1) (pe_glob (v := (.str "abcdefghijklmnopqrstuvwxyz")) rfl k__LETTERS ⟨_, rfl⟩) rfl))) pa_nil))))), ?_⟩
    walk_at "rd"
    cases ax with
    | int n =>
      refine ⟨_, _, _, _, false, rfl, .ty _, .base (.int n), kit_ty (by decide +kernel), ?_⟩
      walk_at "rd"
      exact k H (Same.refl H)
    | bl n =>
      refine ⟨_, _, _, _, false, rfl, .ty _, .base (.bl n), kit_ty (by decide +kernel), ?_⟩
      walk_at "rd"
      exact k H (Same.refl H)
    | non =>
      refine ⟨_, _, _, _, false, rfl, .ty _, .base .non, kit_ty (by decide +kernel), ?_⟩
      walk_at "rd"
      exact k H (Same.refl H)
    | lst h f =>
      refine ⟨_, _, _, _, false, rfl, .ty _, .base (.lst h), kit_ty (by decide +kernel), ?_⟩
      walk_at "rd"
      exact k H (Same.refl H)
    | tup h f =>
      refine ⟨_, _, _, _, false, rfl, .ty _, .base (.tup h), kit_ty (by decide +kernel), ?_⟩
      walk_at "rd"
      exact k H (Same.refl H)
    | @str z lz kz =>
    refine ⟨_, _, _, _, true, rfl, .ty _, .base (.str z), kit_ty (by decide +kernel), ?_⟩
    walk_at "rd"
    have lz' : z.length ≤ sizeLine := Nat.le_trans lz (by decide)
    refine ⟨lz', ?_⟩
    walk_at "rd"
    refine ite2 (fun c1 => ?_) (fun c1 => ?_)
    · walk_at "rd"
      refine ite2 (fun c2 => ?_) (fun c2 => ?_)
      · walk_at "rd"
        have q := k H (Same.refl H)
        rwa [show nmV (.str z) = false from decide_eq_false (by simp at c1 c2; omega)] at q
      · walk_at "rd"
        intro D nD
        have nm : nmV (.str z) = decide (Ltrs z) := by
          unfold nmV isNm
          simp at c1 c2
          simp [show 1 ≤ z.length by omega, show z.length ≤ 12 by omega]
        refine lc_it walk_str (fun i H1 => Same H H1 ∧ H1 D = some (.lst ((z.cps.toList.take i).map fun c => V.bl (decide (c ∈ (Str.ofString "abcdefghijklmnopqrstuvwxyz").cps.toList)))))
          ⟨Same.new (Same.refl H) nD, upd_same⟩ (fun _ _ _ _ => True.intro) ?_ ?_
        · rintro i x H1 H2 hi ⟨s1, e1⟩ ⟨rfl, c, hc, rfl⟩
          walk_at "rd"
          refine ⟨rfl, ?_⟩
          walk_at "rd"
          refine ⟨c, _, rfl, rfl, _, e1, Nat.lt_of_le_of_lt (show _ ≤ 1000 by rw [List.length_map, List.length_take, Array.length_toList]; have : z.cps.size = z.length := rfl; omega) (by decide), fun b o e => ?_, ?_⟩
          · rw [upd_ne (ne_of_none e nD)]
            exact s1 _ _ e
          · have hc' : z.cps.toList[i]? = some c := by simpa using hc
            rw [upd_same, List.take_add_one, hc', List.map_append]
            rfl
        · rintro H1 ⟨s1, e1⟩
          rw [show z.cps.size = z.cps.toList.length by simp, List.take_length] at e1
          refine RD.allB (bs := z.cps.toList.map fun c => decide (c ∈ (Str.ofString "abcdefghijklmnopqrstuvwxyz").cps.toList)) (SqL.of (by rw [e1, List.map_map]; rfl)) ?_
          have q := k H1 s1
          rw [nm] at q
          rwa [show (z.cps.toList.map fun c => decide (c ∈ (Str.ofString "abcdefghijklmnopqrstuvwxyz").cps.toList)).all id = decide (Ltrs z) from by
            rw [Bool.eq_iff_iff]
            simp only [List.all_map, List.all_eq_true, decide_eq_true_eq, Function.comp_apply, id_eq]
            exact ⟨fun h c hc => mem_alpha.mp (by simpa using h c hc), fun h c hc => by simpa using mem_alpha.mpr (h c hc)⟩]
    · walk_at "rd"
      have q := k H (Same.refl H)
      rwa [show nmV (.str z) = false from decide_eq_false (by simp at c1; omega)] at q
abbrev s_isthing : Stmt := top 12
theorem sc_isthing : FnScope ["thing"] ["thing"] (defScope s_isthing) := ⟨rfl, rfl, rfl, by decide +kernel, rfl, by decide +kernel, by decide +kernel⟩
theorem ok_isthing {f : Addr} {fd : FuncData} (F : Fun K "is_thing_name" "is_thing_name" s_isthing f fd) (T : TxtO K mg C B) (D_isname : Def P w K mg base "is_name" 1 ["thing"] spIsName) : FnOk P w K mg base CX0 2 f fd ["thing"] spIsThing := by
  refine F.ok sc_isthing (fun vs H Q E h => ?_) (fun cdv A outer s H vs Q E hr h => ?_)
  · obtain ⟨z, rfl, _⟩ := h
    rfl
  · obtain ⟨x, rfl, ax, k⟩ := h
    obtain ⟨_, k__CASH⟩ := T.k__CASH
    refine ⟨_, (pss_one (ps_ret (pe_and (pe_call D_isname.ok (hr.mono (by decide)) (by rfl) D_isname.mg D_isname.kp D_isname.b .nil pass0 (pa_cons (pv 0) pa_nil)) (pe_one (pe_cmpR op_ne (pv 0) (pe_glob (v := (.str "cash")) rfl k__CASH ⟨_, rfl⟩) (nomark _)))))), ?_⟩
    walk_at "rd"
    refine ⟨x, rfl, ax, fun H1 s1 => ?_⟩
    have q := k H1 s1
    walk_at "rd"
    cases ax with
    | @str z lz kz =>
      have q : Q (.bl (isNm z && decide (z ≠ Str.ofString "cash"))) H1 := k H1 s1
      refine ite2 (fun c => ?_) (fun c => ?_)
      · walk_at "rd"
        rw [show isNm z = true from c, Bool.true_and] at q
        rwa [show (!decide (V.str z = V.str (Str.ofString "cash"))) = decide (z ≠ Str.ofString "cash") from by simp]
      · rw [show isNm z = false from Bool.eq_false_iff.mpr c, Bool.false_and] at q
        exact q
    | int n => exact q
    | bl n => exact q
    | non => exact q
    | lst h f => exact q
    | tup h f => exact q
abbrev s_isint : Stmt := top 9
theorem sc_isint : FnScope ["thing"] ["thing"] (defScope s_isint) := ⟨rfl, rfl, rfl, by decide +kernel, rfl, by decide +kernel, by decide +kernel⟩
theorem ok_isint {f : Addr} {fd : FuncData} (F : Fun K "is_integer" "is_integer" s_isint f fd) (T : TxtO K mg C B) : FnOk P w K mg base CX0 1 f fd ["thing"] spIsInt := by
  refine F.ok sc_isint (fun vs H Q E h => ?_) (fun cdv A outer s H vs Q E hr h => ?_)
  · obtain ⟨z, rfl, _⟩ := h
    rfl
  · obtain ⟨x, rfl, ax, k⟩ := h
    refine ⟨_, (pss_one (ps_ret (pe_and (pe_callB call_isi (by rfl) T.b_isinstance (by decide +kernel) (pa_cons (pv 0) (pa_cons (pe_bltn (v := .ty "int") (by rfl) T.b_int (by decide +kernel) rfl) pa_nil))) (pe_one (pe_not (pe_callB call_isi (by rfl) T.b_isinstance (by decide +kernel) (pa_cons (pv 0) (pa_cons (pe_bltn (v := .ty "bool") (by rfl) T.b_bool (by decide +kernel) rfl) pa_nil)))))))), ?_⟩
    walk_at "rd"
    cases ax with
    | int n =>
      refine ⟨_, _, _, _, true, rfl, .ty _, .base (.int n), kit_ty (by decide +kernel), ?_⟩
      walk_at "rd"
      refine ⟨_, _, _, _, false, rfl, .ty _, .base (.int n), kit_ty (by decide +kernel), ?_⟩
      walk_at "rd"
      exact k
    | bl n =>
      refine ⟨_, _, _, _, true, rfl, .ty _, .base (.bl n), kit_ty (by decide +kernel), ?_⟩
      walk_at "rd"
      refine ⟨_, _, _, _, true, rfl, .ty _, .base (.bl n), kit_ty (by decide +kernel), ?_⟩
      walk_at "rd"
      exact k
    | str lz kz =>
      refine ⟨_, _, _, _, false, rfl, .ty _, .base (.str _), kit_ty (by decide +kernel), ?_⟩
      walk_at "rd"
      exact k
    | non =>
      refine ⟨_, _, _, _, false, rfl, .ty _, .base .non, kit_ty (by decide +kernel), ?_⟩
      walk_at "rd"
      exact k
    | lst h f =>
      refine ⟨_, _, _, _, false, rfl, .ty _, .base (.lst h), kit_ty (by decide +kernel), ?_⟩
      walk_at "rd"
      exact k
    | tup h f =>
      refine ⟨_, _, _, _, false, rfl, .ty _, .base (.tup h), kit_ty (by decide +kernel), ?_⟩
      walk_at "rd"
      exact k
abbrev s_whole : Stmt := top 10
theorem sc_whole : FnScope ["thing", "low", "high"] ["thing", "low", "high"] (defScope s_whole) := ⟨rfl, rfl, rfl, by decide +kernel, rfl, by decide +kernel, by decide +kernel⟩
theorem ok_whole {f : Addr} {fd : FuncData} (F : Fun K "is_whole" "is_whole" s_whole f fd) (T : TxtO K mg C B) (D_isint : Def P w K mg base "is_integer" 1 ["thing"] spIsInt) : FnOk P w K mg base CX0 2 f fd ["thing", "low", "high"] spWhole := by
  refine F.ok sc_whole (fun vs H Q E h => ?_) (fun cdv A outer s H vs Q E hr h => ?_)
  · obtain ⟨z, lo, hi, rfl, _⟩ := h
    rfl
  · obtain ⟨x, lo, hi, rfl, ax, k⟩ := h
    refine ⟨_, (pss_one (ps_ret (pe_and (pe_call D_isint.ok (hr.mono (by decide)) (by rfl) D_isint.mg D_isint.kp D_isint.b .nil pass0 (pa_cons (pv 0) pa_nil)) (pe_one (pe_chain op_le op_le (pv 1) (pv 0) (pv 2)))))), ?_⟩
    walk_at "rd"
    refine ⟨x, rfl, ax, ?_⟩
    cases ax with
    | @int z =>
      walk_at "rd"
      refine ite2 (fun _ => ?_) (fun c => absurd rfl c)
      walk_at "rd"
      refine ite2 (fun c => ?_) (fun c => ?_)
      · walk_at "rd"
        rwa [show decide (z ≤ hi) = whV lo hi (.int z) from by unfold whV; simp at c; simp [c]]
      · rwa [show false = whV lo hi (.int z) from by unfold whV; simp at c; simp; omega]
    | str lz kz => walk_at "rd"; exact k
    | bl n => walk_at "rd"; exact k
    | non => walk_at "rd"; exact k
    | lst h f => walk_at "rd"; exact k
    | tup h f => walk_at "rd"; exact k
abbrev s_binit : Stmt := inClass (top 2) 0
theorem sc_binit : FnScope ["self", "what"] ["self", "what"] (defScope s_binit) := ⟨rfl, rfl, rfl, by decide +kernel, rfl, by decide +kernel, by decide +kernel⟩
theorem ok_binit {f : Addr} {fd : FuncData} (F : Fun K "__init__" "BadOrder.__init__" s_binit f fd) (T : TxtO K mg C B) : FnOk P w K mg base CX0 1 f fd ["self", "what"] (spBinit B) := by
  refine F.ok sc_binit (fun vs H Q E h => ?_) (fun cdv A outer s H vs Q E hr h => ?_)
  · obtain ⟨a, wd, rfl, _⟩ := h
    rfl
  · obtain ⟨a, wd, rfl, ha, k⟩ := h
    refine ⟨_, (pss_one (ps_ost (pv 0) (pv 1))), ?_⟩
    walk_at "rd"
    show tVar 1 _ _ _
    walk_at "rd"
    refine ⟨a, B, rfl, T.oex, T.nwhat, .inl ⟨ha, fun dx n ne => ?_⟩⟩
    walk_at "rd"
    exact k dx n ne
end
end KK

local macro_rules
  | `(tactic| walk_at "rd_f") => `(tactic| first | exact KK.fl_m _ | exact KK.fl_t _ | exact KK.fl_s _ | exact KK.fl_c _ | exact KK.fl_l _)
local macro_rules
  | `(tactic| walk_at "rd_n") => `(tactic| (refine KK.TxtO.na (by assumption) _ ?_; decide +kernel))
local macro_rules
  | `(tactic| walk_at "rd1") => `(tactic| with_reducible first | (apply RX.mkS; (with_unfolding_all rfl)) | (apply RX.methS; (with_unfolding_all rfl)) | apply RX.xf)
namespace KK
open PySem PySem.Spec PyProof.Rows L2
structure OD where
  m : Str
  t : Str
  s : Str
  c : Int
  l : Int
deriving DecidableEq
def ofO (o : OD) : RV := ⟨.str o.m, .str o.t, .str o.s, .int o.c, .int o.l⟩
def sgn (s : Str) : Int := if s = "buy" then 1 else -1
def vRow (r : RV) : List V := [r.m, r.t, r.s, r.c, r.l]
def spInit (C B : Addr) : Sp := fun vs H Q E => ∃ (p dx : Addr) (r : RV), vs = [.ref p, r.m, r.t, r.s, r.c, r.l] ∧ H p = some (.ins C dx []) ∧ Args H r ∧
  (bad r = none → ∀ H', (∀ b u, H b = some u → b ≠ p → H' b = some u) → H' p = some (.ins C dx (afl r)) → Q .non H') ∧
  (∀ wd, bad r = some wd → ∀ d H', Same H H' → H' d = some (.xd (what wd)) → E (.ref B) (some d) H')
def spSign (C : Addr) : Sp := fun vs H Q _ => ∃ (p dx : Addr) (r : RV) (s : Str), vs = [.ref p] ∧ H p = some (.ins C dx (afl r)) ∧ r.s = .str s ∧ Q (.int (sgn s)) H
def spOfCount (C B : Addr) : Sp := fun vs H Q E => ∃ (p dx : Addr) (r : RV) (n : V), vs = [.ref p, n] ∧ H p = some (.ins C dx (afl r)) ∧ Args H { r with c := n } ∧
  (bad { r with c := n } = none → ∀ q dy H', Same H H' → H q = none → H' q = some (.ins C dy (afl { r with c := n })) → Q (.ref q) H') ∧
  (∀ wd, bad { r with c := n } = some wd → ∀ d H', Same H H' → H' d = some (.xd (what wd)) → E (.ref B) (some d) H')
def spEq (K : PySem.W.Frag) (C : Addr) : Sp := fun vs H Q _ => ∃ (p dx : Addr) (o : OD) (y : V), vs = [.ref p, y] ∧ H p = some (.ins C dx (afl (ofO o))) ∧
  ((∃ (q dy : Addr) (u : OD), y = .ref q ∧ H q = some (.ins C dy (afl (ofO u))) ∧ Q (.bl (decide (o = u))) H) ∨ (∃ n : String, n ∈ (["NoneType", "int", "list", "tuple", "str"] : List String) ∧ TyX K H y (.type n) ∧ Q (.bl false) H))
structure MDef (P : Program) (w : World) (K : PySem.W.Frag) (mg : Str → Option Value) (base : Heap) (C : Addr) (k : Nat) (ps : List Str) (sp : Sp) where
  f : Addr
  fd : FuncData
  made : Mk K C f
  ok : FnOk P w K mg base (L2.CX P w) k f fd ps sp
  b : Binds K fd ps []
theorem raised {B : Addr} {H1 : Hp} {wd : Str} {Q : XK} (k : ∀ d H', Same H1 H' → H' d = some (.xd (what wd)) → Q (.ref B) (some d) H') : ([V.str wd] : List V).length ≤ 1000 ∧ ∀ a, H1 a = none → spBinit B (.ref a :: ([V.str wd] ++ [])) (upd H1 a (exo a B none))
    (fun v H2 => v = .non ∧ ∃ (d : Addr) (fs : List (Str × V)), H2 a = some (exo a B (some d)) ∧ H2 d = some (exd d fs) ∧ H1 d = none ∧ Q (.ref B) (some d) (upd (del H2 a) d (.xd fs))) (fun _ _ _ => False) := by
  refine ⟨by show 1 ≤ 1000; decide, fun a na => ⟨a, wd, rfl, upd_same, fun d nd ne => ⟨rfl, d, what wd, upd_same, by rw [upd_ne ne, upd_same], by rwa [upd_ne ne] at nd, k d _ (fun b u e => ?_) upd_same⟩⟩⟩
  have ba := ne_of_none e na
  have bd := ne_of_none e (show H1 d = none by rwa [upd_ne ne] at nd)
  rw [upd_ne bd, del_ne ba, upd_ne ba, upd_ne bd, upd_ne ba]
  exact e
theorem sd_eq (x : V) : sdV x = (decide (x = .str (Str.ofString "buy")) || decide (x = .str (Str.ofString "sell"))) := by
  cases x with
  | str z =>
    unfold sdV
    rw [Bool.eq_iff_iff]
    simp
  | _ => simp [sdV]
section
variable {P : Program} {w : World} {K : PySem.W.Frag} {mg : Str → Option Value} {base : Heap} {C B : Addr}
abbrev s_init : Stmt := inClass (top 14) 2
theorem sc_init : FnScope ["self", "member", "thing", "side", "count", "limit"] ["self", "member", "thing", "side", "count", "limit"] (defScope s_init) := ⟨rfl, rfl, rfl, by decide +kernel, rfl, by decide +kernel, by decide +kernel⟩
theorem ok_init {f : Addr} {fd : FuncData} (F : Fun K "__init__" "Order.__init__" s_init f fd) (T : TxtO K mg C B) (D_isname : Def P w K mg base "is_name" 1 ["thing"] spIsName) (D_isthing : Def P w K mg base "is_thing_name" 2 ["thing"] spIsThing) (D_whole : Def P w K mg base "is_whole" 2 ["thing", "low", "high"] spWhole) (D_binit : EDef P w K mg base B 1 ["self", "what"] (spBinit B)) : FnOk P w K mg base (L2.CX P w) 4 f fd ["self", "member", "thing", "side", "count", "limit"] (spInit C B) := by
  refine F.okX sc_init (fun vs H Q E h => ?_) (fun cdv A outer s H vs Q E hr h => ?_)
  · obtain ⟨p, dx, r, rfl, _⟩ := h
    rfl
  · obtain ⟨p, dx, r, rfl, hp, ax, k, kb⟩ := h
    obtain ⟨_, k_MOST⟩ := T.k_MOST
    obtain ⟨_, k_MOST_COUNT⟩ := T.k_MOST_COUNT
    obtain ⟨mc, rdc, ⟨u1, cv1⟩, ⟨u2, cv2⟩⟩ := T.rd
    have hcl := T.cl_Order
    have hb : PyData.strOk (Str.ofString "buy") = true := by decide +kernel
    have hs : PyData.strOk (Str.ofString "sell") = true := by decide +kernel
    unfold bad at k kb
    refine ⟨_, (pss_cons (ps_if (pt_not (pt_val (pe_call D_isname.ok (hr.mono (by decide)) (by rfl) D_isname.mg D_isname.kp D_isname.b .nil pass0 (pa_cons (pv 1) pa_nil)))) (pss_one (ps_raise rfl (takes_of rfl rfl rfl rfl) (pmk_oex T.oex D_binit.ini D_binit.ty D_binit.ok (hr.mono (by decide)) D_binit.b .nil pass0 (by rfl) T.c_BadOrder (pa_cons pe_str pa_nil)))) pss_nil)
      (pss_cons (ps_if (pt_not (pt_val (pe_call D_isthing.ok (hr.mono (by decide)) (by rfl) D_isthing.mg D_isthing.kp D_isthing.b .nil pass0 (pa_cons (pv 2) pa_nil)))) (pss_one (ps_raise rfl (takes_of rfl rfl rfl rfl) (pmk_oex T.oex D_binit.ini D_binit.ty D_binit.ok (hr.mono (by decide)) D_binit.b .nil pass0 (by rfl) T.c_BadOrder (pa_cons pe_str pa_nil)))) pss_nil)
      (pss_cons (ps_if (PW.pt (pw_and (pt_cmpR (op_neD hr.units) (pv 3) (ClX.pe_cval (pe_glob (v := .ref C) rfl T.c_Order rfl)) (nomark _)) (pw_and1 (pt_cmpR (op_neD hr.units) (pv 3) (ClX.pe_cval (pe_glob (v := .ref C) rfl T.c_Order rfl)) (nomark _))))) (pss_one (ps_raise rfl (takes_of rfl rfl rfl rfl) (pmk_oex T.oex D_binit.ini D_binit.ty D_binit.ok (hr.mono (by decide)) D_binit.b .nil pass0 (by rfl) T.c_BadOrder (pa_cons pe_str pa_nil)))) pss_nil)
      (pss_cons (ps_if (pt_not (pt_val (pe_call D_whole.ok (hr.mono (by decide)) (by rfl) D_whole.mg D_whole.kp D_whole.b .nil pass0 (pa_cons (pv 4) (pa_cons pe_int (pa_cons (pe_glob (v := (.int 1000000)) rfl k_MOST_COUNT ⟨_, rfl⟩) pa_nil)))))) (pss_one (ps_raise rfl (takes_of rfl rfl rfl rfl) (pmk_oex T.oex D_binit.ini D_binit.ty D_binit.ok (hr.mono (by decide)) D_binit.b .nil pass0 (by rfl) T.c_BadOrder (pa_cons pe_str pa_nil)))) pss_nil)
      (pss_cons (ps_if (pt_not (pt_val (pe_call D_whole.ok (hr.mono (by decide)) (by rfl) D_whole.mg D_whole.kp D_whole.b .nil pass0 (pa_cons (pv 5) (pa_cons (pe_un un_neg (pe_glob (v := (.int 1000000000000)) rfl k_MOST ⟨_, rfl⟩)) (pa_cons (pe_glob (v := (.int 1000000000000)) rfl k_MOST ⟨_, rfl⟩) pa_nil)))))) (pss_one (ps_raise rfl (takes_of rfl rfl rfl rfl) (pmk_oex T.oex D_binit.ini D_binit.ty D_binit.ok (hr.mono (by decide)) D_binit.b .nil pass0 (by rfl) T.c_BadOrder (pa_cons pe_str pa_nil)))) pss_nil)
      (pss_cons (ps_fld (pv 0) (pv 1) rfl)
      (pss_cons (ps_fld (pv 0) (pv 2) rfl)
      (pss_cons (ps_fld (pv 0) (pv 3) rfl)
      (pss_cons (ps_fld (pv 0) (pv 4) rfl)
      (pss_one (ps_fld (pv 0) (pv 5) rfl))))))))))), ?_⟩
    walk_at "rd"
    refine ⟨_, rfl, ax.m, fun H1 s1 => ?_⟩
    cases em : nmV r.m with
    | false =>
      rw [em] at kb
      walk_at "rd"
      exact raised fun d H' s e => kb _ rfl d H' (s1.trans s) e
    | true =>
      walk_at "rd"
      refine ⟨_, rfl, ax.t.same s1, fun H2 s2 => ?_⟩
      have s12 := s1.trans s2
      cases et : thV r.t with
      | false =>
        rw [em, et] at kb
        walk_at "rd"
        exact raised fun d H' s e => kb _ rfl d H' (s12.trans s) e
      | true =>
        walk_at "rd"
        refine ⟨C, mc, _, u1, rfl, rdc, cv1, ?_⟩
        obtain ⟨d1, e1, dp1, dq1, sh1, sk1, q1⟩ := (ax.s.same s12).ne_dp (K := K) hb
        refine ⟨d1, e1, dp1, dq1, sh1, sk1, ?_⟩
        rw [q1]
        have es := sd_eq r.s
        cases eb : decide (r.s = V.str (Str.ofString "buy"))
        case' true =>
          have es' : sdV r.s = true := by rw [es, eb]; rfl
          walk_at "rd"
        case' false =>
          walk_at "rd"
          refine ⟨C, mc, _, u2, rfl, rdc, cv2, ?_⟩
          obtain ⟨d2, e2, dp2, dq2, sh2, sk2, q2⟩ := (ax.s.same s12).ne_dp (K := K) hs
          refine ⟨d2, e2, dp2, dq2, sh2, sk2, ?_⟩
          rw [q2]
          cases el : decide (r.s = V.str (Str.ofString "sell"))
          case' false =>
            have es' : sdV r.s = false := by rw [es, eb, el]; rfl
            walk_at "rd"
            rw [em, et, es'] at kb
            exact raised fun d H' s e => kb _ rfl d H' (s12.trans s) e
          case' true =>
            have es' : sdV r.s = true := by rw [es, eb, el]; rfl
            walk_at "rd"
        all_goals
          refine ⟨_, _, _, rfl, ax.c.same s12, ?_⟩
          cases ec : whV 1 1000000 r.c with
          | false =>
            rw [em, et, es', ec] at kb
            walk_at "rd"
            exact raised fun d H' s e => kb _ rfl d H' (s12.trans s) e
          | true =>
            walk_at "rd"
            refine ⟨_, _, _, rfl, ax.l.same s12, ?_⟩
            cases el' : whV (-1000000000000) 1000000000000 r.l with
            | false =>
              rw [em, et, es', ec, el'] at kb
              walk_at "rd"
              exact raised fun d H' s e => kb _ rfl d H' (s12.trans s) e
            | true =>
              rw [em, et, es', ec, el'] at k
              have hp2 := s12 _ _ hp
              walk_at "rd"
              refine k rfl _ (fun b' u e nb => ?_) upd_same
              rw [upd_ne nb, upd_ne nb, upd_ne nb, upd_ne nb, upd_ne nb]
              exact s12 _ _ e
abbrev s_sign : Stmt := inClass (top 14) 3
theorem sc_sign : FnScope ["self"] ["self"] (defScope s_sign) := ⟨rfl, rfl, rfl, by decide +kernel, rfl, by decide +kernel, by decide +kernel⟩
theorem ok_sign {f : Addr} {fd : FuncData} (F : Fun K "sign" "Order.sign" s_sign f fd) (T : TxtO K mg C B) : FnOk P w K mg base CX0 1 f fd ["self"] (spSign C) := by
  refine F.ok sc_sign (fun vs H Q E h => ?_) (fun cdv A outer s H vs Q E hr h => ?_)
  · obtain ⟨p, dx, o, s, rfl, _⟩ := h
    rfl
  · obtain ⟨p, dx, r, sd, rfl, hp, es, k⟩ := h
    obtain ⟨mc, rdc, ⟨u1, cv1⟩, ⟨u2, cv2⟩⟩ := T.rd
    have hcl := T.cl_Order
    refine ⟨_, (pss_one (ps_ret (pe_ifExp (pt_cmpR op_eq (pe_fld (pv 0) rfl) (ClX.pe_cval (pe_glob (v := .ref C) rfl T.c_Order rfl)) (nomark _)) pe_int (pe_un un_neg pe_int)))), ?_⟩
    walk_at "rd"
    rw [es]
    refine ⟨C, mc, _, u1, rfl, rdc, cv1, ?_⟩
    walk_at "rd"
    unfold sgn at k
    refine ite2 (fun c => ?_) (fun c => ?_)
    · walk_at "rd"
      rwa [if_pos (by simpa using c)] at k
    · walk_at "rd"
      rwa [if_neg (by simpa using c)] at k
abbrev s_ofcount : Stmt := inClass (top 14) 4
theorem sc_ofcount : FnScope ["self", "count"] ["self", "count"] (defScope s_ofcount) := ⟨rfl, rfl, rfl, by decide +kernel, rfl, by decide +kernel, by decide +kernel⟩
theorem ok_ofcount {f : Addr} {fd : FuncData} (F : Fun K "of_count" "Order.of_count" s_ofcount f fd) (T : TxtO K mg C B) (D_init : MDef P w K mg base C 4 ["self", "member", "thing", "side", "count", "limit"] (spInit C B)) : FnOk P w K mg base (L2.CX P w) 6 f fd ["self", "count"] (spOfCount C B) := by
  refine F.okX sc_ofcount (fun vs H Q E h => ?_) (fun cdv A outer s H vs Q E hr h => ?_)
  · obtain ⟨p, dx, r, n, rfl, _⟩ := h
    rfl
  · obtain ⟨p, dx, r, n, rfl, hp, ax, k, kb⟩ := h
    have hcl := T.cl_Order
    refine ⟨_, (pss_one (ps_ret (RX.pe_makeS D_init.made D_init.ok (hr.mono (by decide)) (by rfl) T.c_Order D_init.b (fun σ => passAt (takes_of rfl rfl rfl rfl) σ) (pa_cons (pe_fld (pv 0) rfl) (pa_cons (pe_fld (pv 0) rfl) (pa_cons (pe_fld (pv 0) rfl) (pa_cons (pv 1) (pa_cons (pe_fld (pv 0) rfl) pa_nil)))))))), ?_⟩
    walk_at "rd"
    refine fun x dy nx nd ne => ?_
    have sm : Same H (upd (upd H dy (.own x)) x (.ins C dy [])) := fun b u e => by rw [upd_ne (ne_of_none e nx), upd_ne (ne_of_none e nd)]; exact e
    refine ⟨x, dy, { r with c := n }, rfl, upd_same, ax.same sm, fun g H' kp e => ⟨rfl, k g x dy H' (fun b u z => kp b u (sm b u z) (ne_of_none z nx)) nx e⟩, fun wd g d H' s e => kb wd g d H' (sm.trans s) e⟩
abbrev s_eq : Stmt := inClass (top 14) 5
theorem sc_eq : FnScope ["self", "other"] ["self", "other"] (defScope s_eq) := ⟨rfl, rfl, rfl, by decide +kernel, rfl, by decide +kernel, by decide +kernel⟩
theorem ok_eq {f : Addr} {fd : FuncData} (F : Fun K "__eq__" "Order.__eq__" s_eq f fd) (T : TxtO K mg C B) : FnOk P w K mg base CX0 1 f fd ["self", "other"] (spEq K C) := by
  refine F.ok sc_eq (fun vs H Q E h => ?_) (fun cdv A outer s H vs Q E hr h => ?_)
  · obtain ⟨p, dx, r, n, rfl, _⟩ := h
    rfl
  · obtain ⟨p, dx, o, y, rfl, hp, h⟩ := h
    have hcl := T.cl_Order
    refine ⟨_, (pss_one (ps_ret (pe_and (pe_callB call_isi (by rfl) T.b_isinstance (by decide +kernel) (pa_cons (pv 1) (pa_cons (pe_glob (v := .ref C) rfl T.c_Order rfl) pa_nil))) (pe_and (pe_cmpR op_eq (pe_fld (pv 0) rfl) (pe_fld (pv 1) rfl) (nomark _)) (pe_and (pe_cmpR op_eq (pe_fld (pv 0) rfl) (pe_fld (pv 1) rfl) (nomark _)) (pe_and (pe_cmpR op_eq (pe_fld (pv 0) rfl) (pe_fld (pv 1) rfl) (nomark _)) (pe_and (pe_cmpR op_eq (pe_fld (pv 0) rfl) (pe_fld (pv 1) rfl) (nomark _)) (pe_one (pe_cmpR op_eq (pe_fld (pv 0) rfl) (pe_fld (pv 1) rfl) (nomark _)))))))))), ?_⟩
    walk_at "rd"
    rcases h with ⟨q, dy, u, rfl, hq, k⟩ | ⟨n, hn, ty, k⟩
    · refine ⟨_, _, _, _, true, rfl, .own C, .base (.ins hq T.cl_Order T.isi.ca T.isi.cn T.isi.ct T.isi.cm), T.ko, ?_⟩
      walk_at "rd"
      have no : ∀ {b : Prop}, (o = u → b) → ¬ b → Q (.bl false) H := fun h n => by
        have e : decide (o = u) = false := decide_eq_false fun z => n (h z)
        rwa [e] at k
      refine ite2 (fun c1 => ?_) (fun c1 => no (congrArg (fun z => (ofO z).m)) (by simpa using c1))
      walk_at "rd"
      refine ite2 (fun c2 => ?_) (fun c2 => no (congrArg (fun z => (ofO z).t)) (by simpa using c2))
      walk_at "rd"
      refine ite2 (fun c3 => ?_) (fun c3 => no (congrArg (fun z => (ofO z).s)) (by simpa using c3))
      walk_at "rd"
      refine ite2 (fun c4 => ?_) (fun c4 => no (congrArg (fun z => (ofO z).c)) (by simpa using c4))
      walk_at "rd"
      have e : decide (o = u) = decide ((ofO o).l = (ofO u).l) := by
        rw [Bool.eq_iff_iff, decide_eq_true_iff, decide_eq_true_iff]
        refine ⟨congrArg (fun z => (ofO z).l), fun h => ?_⟩
        obtain ⟨m, t, s', c, l⟩ := o
        obtain ⟨m', t', s'', c', l'⟩ := u
        simp [ofO] at c1 c2 c3 c4 h
        subst c1 c2 c3 c4 h
        rfl
      rwa [e] at k
    · refine ⟨_, _, _, _, false, rfl, .own C, ty, T.kt n hn, ?_⟩
      walk_at "rd"
      exact k
end
end KK

local macro_rules
  | `(tactic| walk_at "rd_f") => `(tactic| first | exact KK.fl_m _ | exact KK.fl_t _ | exact KK.fl_s _ | exact KK.fl_c _ | exact KK.fl_l _)
local macro_rules
  | `(tactic| walk_at "rd_n") => `(tactic| (refine KK.TxtO.na (by assumption) _ ?_; decide +kernel))
local macro_rules
  | `(tactic| walk_at "rd1") => `(tactic| with_reducible first | (apply RX.mkS; (with_unfolding_all rfl)) | (apply RX.methS; (with_unfolding_all rfl)) | apply RX.xf)
namespace KK
open PySem PySem.Spec PyProof.Rows L2
structure TxtE (K : PySem.W.Frag) (mg : Str → Option Value) (C B M : Addr) : Prop extends TxtO K mg C B where
  c_MarketError : mg "MarketError" = some (.ref M)
  b_ValueError : mg "ValueError" = none
  b_tuple : mg "tuple" = none
  b_list : mg "list" = none
  b_range : mg "range" = none
  nf : ∀ n ∈ (["NoneType", "int", "list", "tuple", "str"] : List String), PySem.W.notFirst K C (.type n) = true
  em : PySem.W.exmOne K (.ref B) (.ref M) = some true
  eb : PySem.W.exmOne K (.ref B) (.ref B) = some true
  ec : ExcC K B
  xfB : XfC K B
  kBB : PySem.W.kitOne K (.ref B) (.ref B) = some true
  kBV : PySem.W.kitOne K (.ref B) (.type "ValueError") = some true
structure MeDef (P : Program) (w : World) (K : PySem.W.Frag) (mg : Str → Option Value) (base : Heap) (C : Addr) (m : Str) (k : Nat) (ps : List Str) (sp : Sp) where
  f : Addr
  fd : FuncData
  me : Meth K C m f
  ok : FnOk P w K mg base (L2.CX P w) k f fd ps sp
  b : Binds K fd ps []
def spMade (C : Addr) : Sp := fun vs H Q _ => ∃ (R : Addr) (r : RV), vs = [.ref R] ∧ H R = some (.lst (vRow r)) ∧ Args H r ∧
  (bad r = none → ∀ p dx H', Same H H' → H p = none → H' p = some (.ins C dx (afl r)) → Q (.ref p) H') ∧ (∀ wd, bad r = some wd → ∀ H', Same H H' → Q (.str wd) H')
def spCounted (C : Addr) : Sp := fun vs H Q _ => ∃ (p dx : Addr) (r : RV) (n : V), vs = [.ref p, n] ∧ H p = some (.ins C dx (afl r)) ∧ Args H { r with c := n } ∧
  (bad { r with c := n } = none → ∀ q dy H', Same H H' → H q = none → H' q = some (.ins C dy (afl { r with c := n })) → Q (.ref q) H') ∧ (∀ wd, bad { r with c := n } = some wd → ∀ H', Same H H' → Q (.str wd) H')
theorem nocount (r : RV) : (afl r).lookup ("of_count" : Str) = none := by
  unfold afl
  rw [lookup_putF, if_neg (by decide +kernel), lookup_putF, if_neg (by decide +kernel), lookup_putF, if_neg (by decide +kernel), lookup_putF, if_neg (by decide +kernel), lookup_putF, if_neg (by decide +kernel)]
  rfl
theorem what_at (wd : Str) : (what wd).lookup ("what" : Str) = some (.str wd) := by
  unfold what
  rw [lookup_put, if_pos rfl]
section
variable {P : Program} {w : World} {K : PySem.W.Frag} {mg : Str → Option Value} {base : Heap} {C B M : Addr}
abbrev s_made : Stmt := top 23
theorem sc_made : FnScope ["row", "made", "e"] ["row"] (defScope s_made) := ⟨rfl, rfl, rfl, by decide +kernel, rfl, by decide +kernel, by decide +kernel⟩
theorem ok_made {f : Addr} {fd : FuncData} (F : Fun K "_law_made" "_law_made" s_made f fd) (T : TxtE K mg C B M) (D_init : MDef P w K mg base C 4 ["self", "member", "thing", "side", "count", "limit"] (spInit C B)) : FnOk P w K mg base CX0 6 f fd ["row"] (spMade C) := by
  refine F.ok sc_made (fun vs H Q E h => ?_) (fun cdv A outer s H vs Q E hr h => ?_)
  · obtain ⟨p, r, rfl, _⟩ := h
    rfl
  · obtain ⟨R, r, rfl, hR, ax, k, kb⟩ := h
    unfold vRow at hR
    refine ⟨_, (pss_cons (ps_try_as (i := 2) rfl rfl sc_made.nd rfl rfl ⟨by rfl, by decide +kernel, .inl T.c_MarketError⟩ takes0 (fun W pn xe tk po => (pss_one (ps_set (i := 1) sc_made.nd rfl (.inl rfl) (RX.pe_makeS D_init.made D_init.ok (hr.mono (by decide)) (by rfl) T.c_Order D_init.b (fun σ => passAt tk σ) (pa_cons (pe_ix RX.ix_listT (pv 0) pe_int (fun _ _ => rfl)) (pa_cons (pe_ix RX.ix_listT (pv 0) pe_int (fun _ _ => rfl)) (pa_cons (pe_ix RX.ix_listT (pv 0) pe_int (fun _ _ => rfl)) (pa_cons (pe_ix RX.ix_listT (pv 0) pe_int (fun _ _ => rfl)) (pa_cons (pe_ix RX.ix_listT (pv 0) pe_int (fun _ _ => rfl)) pa_nil))))))))) (fun a oe cls d pn hz hf => (pss_cons (ps_if (PW.pt (pw_or (pt_not (pt_val (pe_callB (RX.call_isX hz hf) (by rfl) T.b_isinstance (by decide +kernel) (pa_cons (pv 2) (pa_cons (pe_glob (v := .ref B) rfl T.c_BadOrder rfl) pa_nil))))) (pw_or1 (pt_not (pt_val (pe_callB (RX.call_isX hz hf) (by rfl) T.b_isinstance (by decide +kernel) (pa_cons (pv 2) (pa_cons (pe_bltn (v := .ty "ValueError") (by rfl) T.b_ValueError (by decide +kernel) rfl) pa_nil)))))))) (pss_one (ps_ret pe_str)) pss_nil)
      (pss_one (ps_ret (pe_xf T.xfB T.nwhat hz hf (pv 2)))))))
      (pss_one (ps_ret (pv 1)))), ?_⟩
    walk_at "rd"
    refine fun x dy nx nd ne => ?_
    have sm : Same H (upd (upd H dy (.own x)) x (.ins C dy [])) := fun b u e => by rw [upd_ne (ne_of_none e nx), upd_ne (ne_of_none e nd)]; exact e
    refine ⟨x, dy, r, rfl, upd_same, ax.same sm, fun g H' kp e => ⟨rfl, ?_⟩, fun wd g d H' s e => ⟨true, T.em, fun _ a na => ?_, fun z => nomatch z⟩⟩
    · walk_at "rd"
      exact k g x dy H' (fun b u z => kp b u (sm b u z) (ne_of_none z nx)) nx e
    · walk_at "rd"
      refine ⟨B, _, _, true, d, _, rfl, rfl, rfl, e, T.ec, fun u z => (ClsV.own B).eq z, T.kBB, ?_⟩
      walk_at "rd"
      refine ⟨B, _, _, true, d, _, rfl, rfl, rfl, e, T.ec, fun u z => (ClsV.ty "ValueError").eq z, T.kBV, ?_⟩
      walk_at "rd"
      refine ⟨rfl, rfl, d, _, _, rfl, e, what_at wd, ?_⟩
      exact kb wd g H' (sm.trans s)
abbrev s_counted : Stmt := top 24
theorem sc_counted : FnScope ["order", "count", "made", "e"] ["order", "count"] (defScope s_counted) := ⟨rfl, rfl, rfl, by decide +kernel, rfl, by decide +kernel, by decide +kernel⟩
theorem ok_counted {f : Addr} {fd : FuncData} (F : Fun K "_law_counted" "_law_counted" s_counted f fd) (T : TxtE K mg C B M) (D_ofcount : MeDef P w K mg base C "of_count" 6 ["self", "count"] (spOfCount C B)) : FnOk P w K mg base CX0 7 f fd ["order", "count"] (spCounted C) := by
  refine F.ok sc_counted (fun vs H Q E h => ?_) (fun cdv A outer s H vs Q E hr h => ?_)
  · obtain ⟨p, dx, r, n, rfl, _⟩ := h
    rfl
  · obtain ⟨p, dx, r, n, rfl, hp, ax, k, kb⟩ := h
    refine ⟨_, (pss_cons (ps_try_as (i := 3) rfl rfl sc_counted.nd rfl rfl ⟨by rfl, by decide +kernel, .inl T.c_BadOrder⟩ takes0 (fun W pn xe tk po => (pss_one (ps_set (i := 2) sc_counted.nd rfl (.inl rfl) (RX.pe_methX (pv 0) T.cl_Order D_ofcount.me D_ofcount.ok (hr.mono (by decide)) D_ofcount.b (fun σ => passAt tk σ) (pa_cons (pv 1) pa_nil))))) (fun a oe cls d pn hz hf => (pss_one (ps_ret (pe_xf T.xfB T.nwhat hz hf (pv 3))))))
      (pss_one (ps_ret (pv 2)))), ?_⟩
    walk_at "rd"
    refine ⟨p, dx, _, rfl, hp, nocount r, ?_⟩
    walk_at "rd"
    refine ⟨p, dx, r, n, rfl, hp, ax, fun e q dy H' s nq hq => ?_, fun wd e d H' s hd => ⟨true, T.eb, fun _ a na => ?_, fun z => nomatch z⟩⟩
    · walk_at "rd"
      exact k e q dy H' s nq hq
    · walk_at "rd"
      refine ⟨rfl, rfl, d, _, _, rfl, hd, what_at wd, ?_⟩
      exact kb wd e H' s
end
end KK

local macro_rules
  | `(tactic| walk_at "rd_f") => `(tactic| first | exact KK.fl_m _ | exact KK.fl_t _ | exact KK.fl_s _ | exact KK.fl_c _ | exact KK.fl_l _)
local macro_rules
  | `(tactic| walk_at "rd_n") => `(tactic| (refine KK.TxtO.na (by assumption) _ ?_; decide +kernel))
local macro_rules
  | `(tactic| walk_at "rd1") => `(tactic| with_reducible first | (apply RX.mkS; (with_unfolding_all rfl)) | (apply RX.methS; (with_unfolding_all rfl)) | apply RX.xf)
namespace KK
open PySem PySem.Spec PyProof.Rows L2
structure ODok (o : OD) : Prop where
  m : isNm o.m = true
  t : isTh o.t = true
  s : o.s = "buy" ∨ o.s = "sell"
  c0 : 1 ≤ o.c
  c1 : o.c ≤ 1000000
  l0 : -1000000000000 ≤ o.l
  l1 : o.l ≤ 1000000000000
theorem nm_is {z : Str} (h : NameOk z) : isNm z = true := decide_eq_true ⟨h.lo, h.hi, h.ltr⟩
theorem nm_th {z : Str} (h : NameOk z) : isTh z = true := by
  unfold isTh
  rw [nm_is h, decide_eq_true h.nc]
  rfl
def spRight : Sp := fun vs H Q _ => ∃ (b N : Addr) (n0 n1 : Str), vs = [.ref b, .ref N] ∧ Bag H b ∧ H N = some (.lst [.str n0, .str n1]) ∧ N ≠ b ∧ NameOk n0 ∧ NameOk n1 ∧
  ∀ (p : Addr) (o : OD) (H' : Hp), ODok o → H p = none → p ≠ b → H' p = some (.lst (vRow (ofO o))) → Ext b H H' → Q (.ref p) H'
def wrongAt (pl : Int) (v : V) : Prop := (pl = 0 → nmV v = false) ∧ (pl = 1 → thV v = false) ∧ (pl = 2 → sdV v = false) ∧ (pl = 3 → whV 1 1000000 v = false) ∧ (pl = 4 → whV (-1000000000000) 1000000000000 v = false)
def spWrong : Sp := fun vs H Q _ => ∃ (b : Addr) (pl : Int) (nm : Str), vs = [.ref b, .int pl, .str nm] ∧ Bag H b ∧ 0 ≤ pl ∧ pl ≤ 4 ∧ (pl < 2 → NameOk nm) ∧ ∀ (v : V) (H' : Hp), Arg H' v → wrongAt pl v → Ext b H H' → Q v H'
theorem free_ext {H H' : Hp} {b p : Addr} (e : Ext b H H') (np : H' p = none) (hb : Bag H b) : H p = none ∧ p ≠ b := by
  have n := ne_bag e.1 np
  refine ⟨?_, n⟩
  cases q : H p with
  | none => rfl
  | some o =>
    rw [e.2 _ _ q n] at np
    cases np
theorem ext_new2 {b p : Addr} {H0 H : Hp} {o : HO} (e : Ext b H0 H) (n : H p = none) : Ext b H0 (upd H p o) := e.trans (ext_new e.1 n)
def Sk (z : Str) : Prop := ∀ c ∈ z.cps.toList, c < 0x110000
theorem sk_ok {z : Str} (h : Sk z) : PyData.strOk z = true := by
  unfold PyData.strOk
  rw [← Array.all_toList]
  exact List.all_eq_true.mpr fun c hc => decide_eq_true (h c hc)
theorem sk_app {x y : Str} (hx : Sk x) (hy : Sk y) : Sk (x ++ y) := fun c hc => by
  rw [list_app] at hc
  rcases List.mem_append.mp hc with h | h
  · exact hx c h
  · exact hy c h
theorem sk_cut {z : Str} {lo hi : Option Int} (h : Sk z) : Sk (cutS z lo hi) := fun c hc => h c (List.mem_of_mem_drop (List.mem_of_mem_take (by simpa [cutS] using hc)))
theorem sk_ltr {z : Str} (h : Ltrs z) : Sk z := fun c hc => by have := h c hc; omega
theorem ltrs_l {x y : Str} (h : Ltrs (x ++ y)) : Ltrs x := fun c hc => h c (by rw [list_app]; exact List.mem_append_left _ hc)
theorem ltrs_r {x y : Str} (h : Ltrs (x ++ y)) : Ltrs y := fun c hc => h c (by rw [list_app]; exact List.mem_append_right _ hc)
theorem nm_not {z : Str} (h : ¬ Ltrs z) : isNm z = false := decide_eq_false fun q => h q.2.2
theorem cut_len13 {z : Str} (h : 13 ≤ z.length) : (cutS z none (some (13 : Int))).length = 13 := by
  show (List.toArray _).size = _
  have e : (13 : Int) = ((13 : Nat) : Int) := rfl
  rw [e]
  simp only [List.size_toArray, HT.sIx_none, HT.sIx_nat, List.length_take, List.length_drop, Array.length_toList]
  have : z.cps.size = z.length := rfl
  omega
theorem nm_13 {z : Str} (h : 13 ≤ z.length) : isNm (cutS z none (some (13 : Int))) = false := decide_eq_false fun q => by
  have := cut_len13 h
  omega
structure Bad (z : Str) : Prop where
  n : isNm z = false
  k : Sk z
  l : z.length ≤ 1000
theorem Bad.w {z : Str} (b : Bad z) {pl : Int} (h : pl < 2) : wrongAt pl (.str z) := ⟨fun _ => b.n, fun _ => by
  show isTh z = false
  unfold isTh
  rw [b.n]
  rfl, fun e => by omega, fun e => by omega, fun e => by omega⟩
theorem Bad.a {z : Str} (b : Bad z) {H : Hp} : Arg H (.str z) := .str b.l (sk_ok b.k)
theorem w01 {v : V} {pl : Int} (h : pl < 2) (n : nmV v = false) (t : thV v = false) : wrongAt pl v := ⟨fun _ => n, fun _ => t, fun e => by omega, fun e => by omega, fun e => by omega⟩
theorem w2 {v : V} (n : sdV v = false) : wrongAt 2 v := ⟨fun e => by omega, fun e => by omega, fun _ => n, fun e => by omega, fun e => by omega⟩
theorem w3 {v : V} (n : whV 1 1000000 v = false) : wrongAt 3 v := ⟨fun e => by omega, fun e => by omega, fun e => by omega, fun _ => n, fun e => by omega⟩
theorem w4 {v : V} (n : whV (-1000000000000) 1000000000000 v = false) : wrongAt 4 v := ⟨fun e => by omega, fun e => by omega, fun e => by omega, fun e => by omega, fun _ => n⟩
theorem mem_rep {x v : V} {n : Nat} (h : v ∈ (List.replicate n [x]).flatten) : v = x ∧ 0 < n := by
  obtain ⟨l, hl, hv⟩ := List.mem_flatten.mp h
  obtain ⟨hn, rfl⟩ := List.mem_replicate.mp hl
  exact ⟨by simpa using hv, Nat.pos_of_ne_zero hn⟩
theorem rep_len {x : V} {n : Nat} : (List.replicate n [x]).flatten.length = n := by
  simp
theorem a12 : (⟨(List.replicate (12 : Int).toNat (Str.ofString "a").cps).foldl (· ++ ·) #[]⟩ : Str) = "aaaaaaaaaaaa" := by decide +kernel
theorem sk_of (z : Str) (h : z.cps.toList.all (fun c => decide (c < 0x110000)) = true) : Sk z := fun c hc => of_decide_eq_true (List.all_eq_true.mp h c hc)
section
variable {P : Program} {w : World} {K : PySem.W.Frag} {mg : Str → Option Value} {base : Heap} {C B M : Addr}
abbrev s_right : Stmt := top 21
theorem sc_right : FnScope ["bag", "names", "limit", "count"] ["bag", "names"] (defScope s_right) := ⟨rfl, rfl, rfl, by decide +kernel, rfl, by decide +kernel, by decide +kernel⟩
theorem ok_right {f : Addr} {fd : FuncData} (F : Fun K "_law_right" "_law_right" s_right f fd) (D_take : Def P w K mg base "_law_take" 1 ["bag", "many"] spTake) (D_of : Def P w K mg base "_law_of" 2 ["bag", "some"] spOf) (D_far : Def P w K mg base "_law_far" 2 ["bag", "most"] spFar) : FnOk P w K mg base CX0 3 f fd ["bag", "names"] spRight := by
  refine F.ok sc_right (fun vs H Q E h => ?_) (fun cdv A outer s H vs Q E hr h => ?_)
  · obtain ⟨b, N, n0, n1, rfl, _⟩ := h
    rfl
  · obtain ⟨b, N, n0, n1, rfl, hb, hN, nN, k0, k1, k⟩ := h
    refine ⟨_, (pss_cons (ps_set (i := 2) sc_right.nd rfl (.inl rfl) (pe_call D_of.ok (hr.mono (by decide)) (by rfl) D_of.mg D_of.kp D_of.b .nil pass0 (pa_cons (pv 0) (pa_cons (pe_lst (pa_cons pe_int (pa_cons pe_int (pa_cons (pe_un un_neg pe_int) (pa_cons (pe_op op_pow pe_int pe_int) (pa_cons (pe_un un_neg (pe_op op_pow pe_int pe_int)) (pa_cons (pe_call D_far.ok (hr.mono (by decide)) (by rfl) D_far.mg D_far.kp D_far.b .nil pass0 (pa_cons (pv 0) (pa_cons (pe_op op_pow pe_int pe_int) pa_nil))) (pa_cons (pe_un un_neg (pe_call D_far.ok (hr.mono (by decide)) (by rfl) D_far.mg D_far.kp D_far.b .nil pass0 (pa_cons (pv 0) (pa_cons (pe_op op_pow pe_int pe_int) pa_nil)))) pa_nil)))))))) pa_nil))))
      (pss_cons (ps_set (i := 3) sc_right.nd rfl (.inl rfl) (pe_call D_of.ok (hr.mono (by decide)) (by rfl) D_of.mg D_of.kp D_of.b .nil pass0 (pa_cons (pv 0) (pa_cons (pe_lst (pa_cons pe_int (pa_cons pe_int (pa_cons (pe_op op_pow pe_int pe_int) (pa_cons (pe_op op_add pe_int (pe_call D_take.ok (hr.mono (by decide)) (by rfl) D_take.mg D_take.kp D_take.b .nil pass0 (pa_cons (pv 0) (pa_cons (pe_op op_pow pe_int pe_int) pa_nil)))) (pa_cons pe_int pa_nil)))))) pa_nil))))
      (pss_one (ps_ret (pe_lst (pa_cons (pe_call D_of.ok (hr.mono (by decide)) (by rfl) D_of.mg D_of.kp D_of.b .nil pass0 (pa_cons (pv 0) (pa_cons (pe_lst (pa_cons (pe_ix ix_list (pv 1) pe_int (fun _ _ => rfl)) (pa_cons pe_str pa_nil))) pa_nil))) (pa_cons (pe_ix ix_list (pv 1) pe_int (fun _ _ => rfl)) (pa_cons (pe_call D_of.ok (hr.mono (by decide)) (by rfl) D_of.mg D_of.kp D_of.b .nil pass0 (pa_cons (pv 0) (pa_cons (pe_lst (pa_cons pe_str (pa_cons pe_str pa_nil))) pa_nil))) (pa_cons (pv 3) (pa_cons (pv 2) pa_nil)))))))))), ?_⟩
    walk_at "rd"
    refine ⟨b, _, rfl, hb, by decide, fun r1 H1 l1 u1 e1 => ?_⟩
    walk_at "rd"
    refine ⟨b, _, rfl, e1.1, by decide, fun r2 H2 l2 u2 e2 => ?_⟩
    have u1' : r1 ≤ 1000000000000 := u1
    have u2' : r2 ≤ 1000000000000 := u2
    walk_at "rd"
    refine ⟨by show 7 ≤ sizeLine; decide, fun p1 np1 => ?_⟩
    walk_at "rd"
    have e3 := (e1.trans e2).trans (ext_new (o := .lst [.int 0, .int 1, .int (-1), .int (10 ^ (12 : Int).toNat), .int (-10 ^ (12 : Int).toNat), .int r1, .int (-r2)]) e2.1 np1)
    refine ⟨b, p1, _, rfl, e3.1, upd_same, ne_bag e2.1 np1, Nat.zero_lt_succ _, by show 7 < 1000; decide, fun v H4 hv e4 => ?_⟩
    obtain ⟨d, rfl, d0, d1⟩ : ∃ d : Int, v = .int d ∧ -1000000000000 ≤ d ∧ d ≤ 1000000000000 := by
      simp only [List.mem_cons, List.not_mem_nil, or_false] at hv
      rcases hv with rfl | rfl | rfl | rfl | rfl | rfl | rfl
      · exact ⟨_, rfl, by decide, by decide⟩
      · exact ⟨_, rfl, by decide, by decide⟩
      · exact ⟨_, rfl, by decide, by decide⟩
      · exact ⟨_, rfl, by decide, by decide⟩
      · exact ⟨_, rfl, by decide, by decide⟩
      · exact ⟨_, rfl, by omega, by omega⟩
      · exact ⟨_, rfl, by omega, by omega⟩
    have e5 := e3.trans e4
    clear e1 e2 e3 e4 hv
    walk_at "rd"
    refine ⟨b, _, rfl, e5.1, by decide, by decide, fun r3 H5 l3 u3 e6 => ?_⟩
    have u3' : r3 < 1000000 := u3
    have e7 := e5.trans e6
    clear e5 e6
    walk_at "rd"
    refine ⟨by show 5 ≤ sizeLine; decide, fun p2 np2 => ?_⟩
    walk_at "rd"
    have e8 := e7.trans (ext_new (o := .lst [.int 1, .int 2, .int (10 ^ (6 : Int).toNat), .int (1 + r3), .int 3]) e7.1 np2)
    refine ⟨b, p2, _, rfl, e8.1, upd_same, ne_bag e7.1 np2, Nat.zero_lt_succ _, by show 5 < 1000; decide, fun v H6 hv e9 => ?_⟩
    obtain ⟨c, rfl, c0, c1⟩ : ∃ c : Int, v = .int c ∧ 1 ≤ c ∧ c ≤ 1000000 := by
      simp only [List.mem_cons, List.not_mem_nil, or_false] at hv
      rcases hv with rfl | rfl | rfl | rfl | rfl
      · exact ⟨_, rfl, by decide, by decide⟩
      · exact ⟨_, rfl, by decide, by decide⟩
      · exact ⟨_, rfl, by decide, by decide⟩
      · exact ⟨_, rfl, by omega, by omega⟩
      · exact ⟨_, rfl, by decide, by decide⟩
    have e10 := e8.trans e9
    clear e7 e8 e9 hv
    have hN6 := e10.2 _ _ hN nN
    walk_at "rd"
    refine ⟨by show 2 ≤ sizeLine; decide, fun p3 np3 => ?_⟩
    walk_at "rd"
    have e11 := e10.trans (ext_new (o := .lst [.str n0, .str "cash"]) e10.1 np3)
    refine ⟨b, p3, _, rfl, e11.1, upd_same, ne_bag e10.1 np3, Nat.zero_lt_succ _, by show 2 < 1000; decide, fun v H7 hv e12 => ?_⟩
    obtain ⟨m, rfl, hm⟩ : ∃ m : Str, v = .str m ∧ isNm m = true := by
      simp only [List.mem_cons, List.not_mem_nil, or_false] at hv
      rcases hv with rfl | rfl
      · exact ⟨_, rfl, nm_is k0⟩
      · exact ⟨_, rfl, by decide +kernel⟩
    have e13 := e11.trans e12
    clear e10 e11 e12 hv
    have hN7 := e13.2 _ _ hN nN
    walk_at "rd"
    refine ⟨by show 2 ≤ sizeLine; decide, fun p4 np4 => ?_⟩
    walk_at "rd"
    have e14 := e13.trans (ext_new (o := .lst [.str "buy", .str "sell"]) e13.1 np4)
    refine ⟨b, p4, _, rfl, e14.1, upd_same, ne_bag e13.1 np4, Nat.zero_lt_succ _, by show 2 < 1000; decide, fun v H8 hv e15 => ?_⟩
    obtain ⟨sd, rfl, hs⟩ : ∃ sd : Str, v = .str sd ∧ (sd = "buy" ∨ sd = "sell") := by
      simp only [List.mem_cons, List.not_mem_nil, or_false] at hv
      rcases hv with rfl | rfl
      · exact ⟨_, rfl, .inl rfl⟩
      · exact ⟨_, rfl, .inr rfl⟩
    have e16 := e14.trans e15
    walk_at "rd"
    refine ⟨by show 5 ≤ sizeLine; decide, fun p np => ?_⟩
    obtain ⟨f0, fb⟩ := free_ext e16 np hb
    walk_at "rd"
    exact k p ⟨m, n1, sd, c, d⟩ _ ⟨hm, nm_th k1, hs, c0, c1, d0, d1⟩ f0 fb upd_same (e16.trans (ext_new e16.1 np))
abbrev s_wrong : Stmt := top 22
theorem sc_wrong : FnScope ["bag", "place", "name", "signs", "word"] ["bag", "place", "name"] (defScope s_wrong) := ⟨rfl, rfl, rfl, by decide +kernel, rfl, by decide +kernel, by decide +kernel⟩
theorem ok_wrong {f : Addr} {fd : FuncData} (F : Fun K "_law_wrong" "_law_wrong" s_wrong f fd) (D_of : Def P w K mg base "_law_of" 2 ["bag", "some"] spOf) : FnOk P w K mg base CX0 3 f fd ["bag", "place", "name"] spWrong := by
  refine F.ok sc_wrong (fun vs H Q E h => ?_) (fun cdv A outer s H vs Q E hr h => ?_)
  · obtain ⟨b, N, n0, rfl, _⟩ := h
    rfl
  · obtain ⟨b, pl, nm, rfl, hb, p0, p4, hnm, k⟩ := h
    refine ⟨_, (pss_cons (ps_if (pt_cmpR op_lt (pv 1) pe_int (nomark _)) (pss_cons (ps_set (i := 3) sc_wrong.nd rfl (.inl rfl) (pe_lst (pa_cons pe_str (pa_cons pe_str (pa_cons pe_str (pa_cons pe_str pa_nil))))))
      (pss_cons (ps_set (i := 4) sc_wrong.nd rfl (.inl rfl) (pe_call D_of.ok (hr.mono (by decide)) (by rfl) D_of.mg D_of.kp D_of.b .nil pass0 (pa_cons (pv 0) (pa_cons (pe_lst (pa_cons (pe_op op_add_str (pv 2) (pe_call D_of.ok (hr.mono (by decide)) (by rfl) D_of.mg D_of.kp D_of.b .nil pass0 (pa_cons (pv 0) (pa_cons (pv 3) pa_nil)))) (pa_cons (pe_op op_add_str (pe_call D_of.ok (hr.mono (by decide)) (by rfl) D_of.mg D_of.kp D_of.b .nil pass0 (pa_cons (pv 0) (pa_cons (pv 3) pa_nil))) (pv 2)) (pa_cons (pe_slice sl_str (pe_op op_add_str (pv 2) (pe_op RX.op_mulS pe_str pe_int)) po_none (po_some pe_int)) pa_nil)))) pa_nil))))
      (pss_one (ps_ret (pe_call D_of.ok (hr.mono (by decide)) (by rfl) D_of.mg D_of.kp D_of.b .nil pass0 (pa_cons (pv 0) (pa_cons (pe_op op_cat (pe_lst (pa_cons pe_str (pa_cons (pv 4) (pa_cons (pv 4) (pa_cons pe_non (pa_cons pe_bl (pa_cons pe_int (pa_cons (pe_lst (pa_cons (pv 2) pa_nil)) (pa_cons (pe_tup (pa_cons (pv 2) pa_nil)) pa_nil))))))))) (pe_op op_rep (pe_lst (pa_cons pe_str pa_nil)) (pe_op op_mul pe_int (pv 1)))) pa_nil))))))) pss_nil)
      (pss_cons (ps_if (pt_cmpR op_eq (pv 1) pe_int (nomark _)) (pss_one (ps_ret (pe_call D_of.ok (hr.mono (by decide)) (by rfl) D_of.mg D_of.kp D_of.b .nil pass0 (pa_cons (pv 0) (pa_cons (pe_lst (pa_cons pe_str (pa_cons pe_str (pa_cons pe_str (pa_cons pe_str (pa_cons pe_str (pa_cons pe_str (pa_cons pe_non (pa_cons pe_bl (pa_cons pe_int (pa_cons (pe_un un_neg pe_int) (pa_cons (pe_lst (pa_cons pe_str pa_nil)) (pa_cons (pe_tup (pa_cons pe_str pa_nil)) pa_nil))))))))))))) pa_nil))))) pss_nil)
      (pss_cons (ps_if (pt_cmpR op_eq (pv 1) pe_int (nomark _)) (pss_one (ps_ret (pe_call D_of.ok (hr.mono (by decide)) (by rfl) D_of.mg D_of.kp D_of.b .nil pass0 (pa_cons (pv 0) (pa_cons (pe_lst (pa_cons pe_int (pa_cons (pe_un un_neg pe_int) (pa_cons (pe_op op_add (pe_op op_pow pe_int pe_int) pe_int) (pa_cons (pe_op op_pow pe_int pe_int) (pa_cons (pe_un un_neg (pe_op op_pow pe_int pe_int)) (pa_cons pe_bl (pa_cons pe_non (pa_cons pe_str (pa_cons (pe_tup (pa_cons pe_int pa_nil)) pa_nil)))))))))) pa_nil))))) pss_nil)
      (pss_one (ps_ret (pe_call D_of.ok (hr.mono (by decide)) (by rfl) D_of.mg D_of.kp D_of.b .nil pass0 (pa_cons (pv 0) (pa_cons (pe_lst (pa_cons (pe_op op_add (pe_op op_pow pe_int pe_int) pe_int) (pa_cons (pe_op op_sub (pe_un un_neg (pe_op op_pow pe_int pe_int)) pe_int) (pa_cons (pe_op op_pow pe_int pe_int) (pa_cons (pe_un un_neg (pe_op op_pow pe_int pe_int)) (pa_cons pe_bl (pa_cons pe_bl (pa_cons pe_non (pa_cons pe_str (pa_cons (pe_lst (pa_cons pe_int pa_nil)) pa_nil)))))))))) pa_nil)))))))), ?_⟩
    walk_at "rd"
    refine ite2 (fun c1 => ?_) (fun c1 => ?_)
    · have p2 : pl < 2 := of_decide_eq_true c1
      have nk := hnm p2
      have nl := nk.hi
      have nl1 := nk.lo
      walk_at "rd"
      refine ⟨by show 4 ≤ sizeLine; decide, fun s1 ns1 => ?_⟩
      have nb1 := ne_bag hb ns1
      have sg : ∀ v ∈ ([.str "A", .str "0", .str " ", .str "_"] : List V), ∃ c : Str, v = .str c ∧ c.length = 1 ∧ Sk c ∧ ¬ Ltrs c := fun v hv => by
        simp only [List.mem_cons, List.not_mem_nil, or_false] at hv
        rcases hv with rfl | rfl | rfl | rfl
        all_goals exact ⟨_, rfl, by decide +kernel, sk_of _ (by decide +kernel), by decide +kernel⟩
      walk_at "rd"
      refine ⟨b, s1, _, rfl, (ext_new hb ns1).1, upd_same, nb1, Nat.zero_lt_succ _, by show 4 < 1000; decide, fun v H2 hv e2 => ?_⟩
      obtain ⟨g1, rfl, g1l, g1k, g1n⟩ := sg v hv
      have e2' := (ext_new (o := .lst [.str "A", .str "0", .str " ", .str "_"]) hb ns1).trans e2
      have h2 := e2.2 _ _ upd_same nb1
      refine ⟨_, _, rfl, rfl, Nat.le_trans (show nm.length + g1.length ≤ 1000 by omega) (by decide), ?_⟩
      walk_at "rd"
      refine ⟨b, s1, _, rfl, e2.1, h2, nb1, Nat.zero_lt_succ _, by show 4 < 1000; decide, fun v H3 hv e3 => ?_⟩
      obtain ⟨g2, rfl, g2l, g2k, g2n⟩ := sg v hv
      have e3' := e2'.trans e3
      walk_at "rd"
      refine ⟨_, 12, rfl, rfl, by decide, by decide, by decide +kernel, by decide +kernel, ?_⟩
      rw [a12]
      have al : (Str.ofString "aaaaaaaaaaaa").length = 12 := by decide +kernel
      refine ⟨_, _, rfl, rfl, Nat.le_trans (show nm.length + (Str.ofString "aaaaaaaaaaaa").length ≤ 1000 by omega) (by decide), ?_⟩
      walk_at "rd"
      refine RD.slS (Nat.le_trans (show (nm ++ Str.ofString "aaaaaaaaaaaa").length ≤ 1000 by rw [len_app]; omega) (by decide)) ?_
      walk_at "rd"
      refine ⟨by show 3 ≤ sizeLine; decide, fun s2 ns2 => ?_⟩
      walk_at "rd"
      refine ⟨b, s2, _, rfl, (ext_new e3'.1 ns2).1, upd_same, ne_bag e3'.1 ns2, Nat.zero_lt_succ _, by show 3 < 1000; decide, fun v H4 hv e4 => ?_⟩
      obtain ⟨W, rfl, bw⟩ : ∃ W : Str, v = .str W ∧ Bad W := by
        have nk' := sk_ltr nk.ltr
        simp only [List.mem_cons, List.not_mem_nil, or_false] at hv
        rcases hv with rfl | rfl | rfl
        · exact ⟨_, rfl, nm_not fun h => g1n (ltrs_r h), sk_app nk' g1k, by rw [len_app]; omega⟩
        · exact ⟨_, rfl, nm_not fun h => g2n (ltrs_l h), sk_app g2k nk', by rw [len_app]; omega⟩
        · have l13 : 13 ≤ (nm ++ Str.ofString "aaaaaaaaaaaa").length := by rw [len_app]; omega
          exact ⟨_, rfl, nm_13 l13, sk_cut (sk_app nk' (sk_of _ (by decide +kernel))), by rw [cut_len13 l13]; decide⟩
      have e5 : Ext b H H4 := (ext_new2 e3' ns2).trans e4
      clear e2 e2' e3 e3' e4 h2 hv
      walk_at "rd"
      refine ⟨by show 1 ≤ sizeLine; decide, fun q1 n1 => ?_⟩
      walk_at "rd"
      refine ⟨by show 1 ≤ sizeLine; decide, fun q2 n2 => ?_⟩
      walk_at "rd"
      refine ⟨by show 8 ≤ sizeLine; decide, fun q3 n3 => ?_⟩
      walk_at "rd"
      refine ⟨by show 1 ≤ sizeLine; decide, fun q4 n4 => ?_⟩
      walk_at "rd"
      refine ⟨q4, 3 * pl, _, rfl, rfl, upd_same, by omega, by omega, Nat.le_trans (show 1 * (3 * pl).toNat ≤ 1000 by omega) (by decide), fun q5 n5 => ?_⟩
      refine ⟨q3, q5, _, _, rfl, rfl, by rw [upd_ne (ne_of_none (by rw [upd_ne (ne_of_none upd_same n4)]; exact upd_same) n5), upd_ne (ne_of_none upd_same n4)]; exact upd_same, upd_same, Nat.le_trans (show 8 + (List.replicate (3 * pl).toNat [V.str (Str.ofString "cash")]).flatten.length ≤ 1000 by rw [rep_len]; omega) (by decide), fun q6 n6 => ?_⟩
      walk_at "rd"
      refine ⟨b, q6, _, rfl, (ext_new2 (ext_new2 (ext_new2 (ext_new2 (ext_new2 (ext_new2 (Ext.refl e5.1) n1) n2) n3) n4) n5) n6).1, upd_same, ne_bag (ext_new2 (ext_new2 (ext_new2 (ext_new2 (ext_new2 (Ext.refl e5.1) n1) n2) n3) n4) n5).1 n6,
        Nat.zero_lt_succ _, by rw [List.length_append, rep_len]; show 8 + _ < 1000; omega, fun v H' hv e => ?_⟩
      have y1 := ((ext_new2 (ext_new2 (ext_new2 (ext_new2 (ext_new2 (Ext.refl (ext_new e5.1 n1).1) n2) n3) n4) n5) n6).trans e).2 q1 _ upd_same (ne_bag e5.1 n1)
      have y2 := ((ext_new2 (ext_new2 (ext_new2 (ext_new2 (Ext.refl (ext_new2 (ext_new e5.1 n1) n2).1) n3) n4) n5) n6).trans e).2 q2 _ upd_same (ne_bag (ext_new e5.1 n1).1 n2)
      have y := e5.trans ((ext_new2 (ext_new2 (ext_new2 (ext_new2 (ext_new2 (ext_new2 (Ext.refl e5.1) n1) n2) n3) n4) n5) n6).trans e)
      have fn : Flat (.str nm) := .str (sk_ok (sk_ltr nk.ltr))
      rcases List.mem_append.mp hv with hv | hv
      · simp only [List.mem_cons, List.not_mem_nil, or_false] at hv
        rcases hv with rfl | rfl | rfl | rfl | rfl | rfl | rfl | rfl
        · exact k _ _ (.str (by decide +kernel) (by decide +kernel)) (w01 p2 (by decide +kernel) (by decide +kernel)) y
        · exact k _ _ bw.a (bw.w p2) y
        · exact k _ _ bw.a (bw.w p2) y
        · exact k _ _ .non (w01 p2 rfl rfl) y
        · exact k _ _ (.bl _) (w01 p2 rfl rfl) y
        · exact k _ _ (.int _) (w01 p2 rfl rfl) y
        · exact k _ _ (.lst y1 fn) (w01 p2 rfl rfl) y
        · exact k _ _ (.tup y2 fn) (w01 p2 rfl rfl) y
      · obtain ⟨rfl, z⟩ := mem_rep hv
        exact k _ _ (.str (by decide +kernel) (by decide +kernel)) ⟨fun e => by omega, fun _ => by decide +kernel, fun e => by omega, fun e => by omega, fun e => by omega⟩ y
    · have p2 : ¬ pl < 2 := of_decide_eq_false (by simpa using c1)
      walk_at "rd"
      refine ite2 (fun c2 => ?_) (fun c2 => ?_)
      · have e2 : pl = 2 := by simpa using c2
        subst e2
        walk_at "rd"
        refine ⟨by show 1 ≤ sizeLine; decide, fun q1 n1 => ?_⟩
        walk_at "rd"
        refine ⟨by show 1 ≤ sizeLine; decide, fun q2 n2 => ?_⟩
        walk_at "rd"
        refine ⟨by show 12 ≤ sizeLine; decide, fun q3 n3 => ?_⟩
        walk_at "rd"
        refine ⟨b, q3, _, rfl, (ext_new2 (ext_new2 (ext_new2 (Ext.refl hb) n1) n2) n3).1, upd_same, ne_bag (ext_new2 (ext_new2 (Ext.refl hb) n1) n2).1 n3, Nat.zero_lt_succ _, by show 12 < 1000; decide, fun v H' hv e => ?_⟩
        have y1 := ((ext_new2 (ext_new2 (Ext.refl (ext_new hb n1).1) n2) n3).trans e).2 q1 _ upd_same (ne_bag hb n1)
        have y2 := ((ext_new2 (Ext.refl (ext_new2 (ext_new hb n1) n2).1) n3).trans e).2 q2 _ upd_same (ne_bag (ext_new hb n1).1 n2)
        have y := (ext_new2 (ext_new2 (ext_new2 (Ext.refl hb) n1) n2) n3).trans e
        simp only [List.mem_cons, List.not_mem_nil, or_false] at hv
        rcases hv with rfl | rfl | rfl | rfl | rfl | rfl | rfl | rfl | rfl | rfl | rfl | rfl
        iterate 6 exact k _ _ (.str (by decide +kernel) (by decide +kernel)) (w2 (by decide +kernel)) y
        · exact k _ _ .non (w2 rfl) y
        · exact k _ _ (.bl _) (w2 rfl) y
        · exact k _ _ (.int _) (w2 rfl) y
        · exact k _ _ (.int _) (w2 rfl) y
        · exact k _ _ (.lst y1 (.str (by decide +kernel))) (w2 rfl) y
        · exact k _ _ (.tup y2 (.str (by decide +kernel))) (w2 rfl) y
      · have n2 : pl ≠ 2 := by simpa using c2
        walk_at "rd"
        refine ite2 (fun c3 => ?_) (fun c3 => ?_)
        · have e3 : pl = 3 := by simpa using c3
          subst e3
          walk_at "rd"
          refine ⟨by show 1 ≤ sizeLine; decide, fun q1 n1 => ?_⟩
          walk_at "rd"
          refine ⟨by show 9 ≤ sizeLine; decide, fun q3 n3 => ?_⟩
          walk_at "rd"
          refine ⟨b, q3, _, rfl, (ext_new2 (ext_new2 (Ext.refl hb) n1) n3).1, upd_same, ne_bag (ext_new2 (Ext.refl hb) n1).1 n3, Nat.zero_lt_succ _, by show 9 < 1000; decide, fun v H' hv e => ?_⟩
          have y1 := ((ext_new2 (Ext.refl (ext_new hb n1).1) n3).trans e).2 q1 _ upd_same (ne_bag hb n1)
          have y := (ext_new2 (ext_new2 (Ext.refl hb) n1) n3).trans e
          simp only [List.mem_cons, List.not_mem_nil, or_false] at hv
          rcases hv with rfl | rfl | rfl | rfl | rfl | rfl | rfl | rfl | rfl
          iterate 5 exact k _ _ (.int _) (w3 (by decide +kernel)) y
          · exact k _ _ (.bl _) (w3 rfl) y
          · exact k _ _ .non (w3 rfl) y
          · exact k _ _ (.str (by decide +kernel) (by decide +kernel)) (w3 rfl) y
          · exact k _ _ (.tup y1 (.int _)) (w3 rfl) y
        · have n3 : pl ≠ 3 := by simpa using c3
          have e4 : pl = 4 := by omega
          subst e4
          walk_at "rd"
          refine ⟨by show 1 ≤ sizeLine; decide, fun q1 n1 => ?_⟩
          walk_at "rd"
          refine ⟨by show 9 ≤ sizeLine; decide, fun q3 n3 => ?_⟩
          walk_at "rd"
          refine ⟨b, q3, _, rfl, (ext_new2 (ext_new2 (Ext.refl hb) n1) n3).1, upd_same, ne_bag (ext_new2 (Ext.refl hb) n1).1 n3, Nat.zero_lt_succ _, by show 9 < 1000; decide, fun v H' hv e => ?_⟩
          have y1 := ((ext_new2 (Ext.refl (ext_new hb n1).1) n3).trans e).2 q1 _ upd_same (ne_bag hb n1)
          have y := (ext_new2 (ext_new2 (Ext.refl hb) n1) n3).trans e
          simp only [List.mem_cons, List.not_mem_nil, or_false] at hv
          rcases hv with rfl | rfl | rfl | rfl | rfl | rfl | rfl | rfl | rfl
          iterate 4 exact k _ _ (.int _) (w4 (by decide +kernel)) y
          · exact k _ _ (.bl _) (w4 rfl) y
          · exact k _ _ (.bl _) (w4 rfl) y
          · exact k _ _ .non (w4 rfl) y
          · exact k _ _ (.str (by decide +kernel) (by decide +kernel)) (w4 rfl) y
          · exact k _ _ (.lst y1 (.int _)) (w4 rfl) y
end
end KK

local macro_rules
  | `(tactic| walk_at "rd_f") => `(tactic| first | exact KK.fl_m _ | exact KK.fl_t _ | exact KK.fl_s _ | exact KK.fl_c _ | exact KK.fl_l _)
local macro_rules
  | `(tactic| walk_at "rd_n") => `(tactic| (refine KK.TxtO.na (by assumption) _ ?_; decide +kernel))
local macro_rules
  | `(tactic| walk_at "rd1") => `(tactic| with_reducible first | (apply RX.mkS; (with_unfolding_all rfl)) | (apply RX.methS; (with_unfolding_all rfl)) | apply RX.xf)
namespace KK
open PySem PySem.Spec PyProof.Rows L2
theorem th_nm {z : Str} (h : isTh z = true) : isNm z = true := by
  unfold isTh at h
  rw [Bool.and_eq_true] at h
  exact h.1
theorem nm_ltr {z : Str} (h : isNm z = true) : Ltrs z := (of_decide_eq_true h).2.2
theorem nm_lo {z : Str} (h : isNm z = true) : 1 ≤ z.length := (of_decide_eq_true h).1
theorem nm_hi {z : Str} (h : isNm z = true) : z.length ≤ 12 := (of_decide_eq_true h).2.1
theorem side_ltr {z : Str} (h : z = "buy" ∨ z = "sell") : Ltrs z := by
  rcases h with rfl | rfl <;> decide +kernel
theorem side_len {z : Str} (h : z = "buy" ∨ z = "sell") : z.length ≤ 1000 := by
  rcases h with rfl | rfl <;> decide +kernel
theorem ltr_ok {z : Str} (h : Ltrs z) : PyData.strOk z = true := sk_ok (sk_ltr h)
theorem good_bad {o : OD} (h : ODok o) : bad (ofO o) = none := by
  unfold bad
  rw [show nmV (ofO o).m = true from h.m, show thV (ofO o).t = true from h.t, show sdV (ofO o).s = true from decide_eq_true h.s, show whV 1 1000000 (ofO o).c = true from decide_eq_true ⟨h.c0, h.c1⟩, show whV (-1000000000000) 1000000000000 (ofO o).l = true from decide_eq_true ⟨h.l0, h.l1⟩]
  rfl
theorem good_args {o : OD} (h : ODok o) (H : Hp) : Args H (ofO o) :=
  ⟨.str (by have := nm_hi h.m; omega) (ltr_ok (nm_ltr h.m)), .str (by have := nm_hi (th_nm h.t); omega) (ltr_ok (nm_ltr (th_nm h.t))), .str (side_len h.s) (ltr_ok (side_ltr h.s)), .int _, .int _⟩
/-! ### a row that differs -/
def lastc (z : Str) : Nat := (z.cps.toList.getLast?).getD 0
def chg (z : Str) : Str := cutS z none (some (-1)) ++ (if lastc z = 98 then (Str.ofString "c") else (Str.ofString "b"))
theorem at_last {z : Str} (h : 1 ≤ z.length) : atI z.cps.toList (-1) = some (lastc z) := by
  have hl : z.cps.toList.length = z.length := Array.length_toList
  unfold atI ixN lastc
  rw [if_neg (by decide), if_pos (by omega)]
  have e : ((-1 : Int) + (z.cps.toList.length : Int)).toNat = z.cps.toList.length - 1 := by omega
  show z.cps.toList[((-1 : Int) + (z.cps.toList.length : Int)).toNat]? = _
  rw [e, ← List.getLast?_eq_getElem?]
  cases h2 : z.cps.toList.getLast? with
  | none =>
    have := List.getLast?_eq_none_iff.mp h2
    rw [this] at hl
    simp at hl
    omega
  | some c => rfl
theorem cut_last {z : Str} (h : 1 ≤ z.length) : (cutS z none (some (-1))).length = z.length - 1 := by
  show (List.toArray _).size = _
  have e : HT.sIx z.length z.length (some (-1)) = z.length - 1 := by
    show (if (-1 : Int) < 0 then ((-1 : Int) + (z.length : Int)).toNat else min (-1 : Int).toNat z.length) = _
    rw [if_pos (show (-1 : Int) < 0 by decide)]
    omega
  rw [e]
  simp only [List.size_toArray, HT.sIx_none, List.length_take, List.length_drop, Array.length_toList]
  have : z.cps.size = z.length := rfl
  omega
theorem chg_len {z : Str} (h : 1 ≤ z.length) : (chg z).length = z.length := by
  unfold chg
  rw [len_app, cut_last h]
  have : (if lastc z = 98 then (Str.ofString "c") else (Str.ofString "b")).length = 1 := by split <;> decide +kernel
  omega
theorem lastc_app (x : Str) (c : Nat) : lastc (x ++ ⟨#[c]⟩) = c := by
  unfold lastc
  rw [list_app]
  show ((x.cps.toList ++ [c]).getLast?).getD 0 = c
  rw [List.getLast?_concat]
  rfl
theorem chg_last (z : Str) : lastc (chg z) = if lastc z = 98 then 99 else 98 := by
  unfold chg
  split
  · exact lastc_app _ 99
  · exact lastc_app _ 98
theorem chg_ne (z : Str) : chg z ≠ z := fun e => by
  have h := chg_last z
  rw [e] at h
  split at h <;> omega
theorem chg_ltr {z : Str} (h : Ltrs z) : Ltrs (chg z) := by
  unfold chg
  refine ltrs_app (ltrs_cut h) ?_
  split <;> decide +kernel
theorem chg_nm {z : Str} (h : isNm z = true) : isNm (chg z) = true := decide_eq_true ⟨by rw [chg_len (nm_lo h)]; exact nm_lo h, by rw [chg_len (nm_lo h)]; exact nm_hi h, chg_ltr (nm_ltr h)⟩
theorem chg_th {z : Str} (h : isTh z = true) : isTh (chg z) = true := by
  unfold isTh
  rw [chg_nm (th_nm h), Bool.true_and]
  refine decide_eq_true fun e => ?_
  have h2 := chg_last z
  rw [e] at h2
  have : lastc ("cash" : Str) = 104 := by decide +kernel
  split at h2 <;> omega
theorem isb (c : Nat) : (V.str ⟨#[c]⟩ = V.str (Str.ofString "b")) ↔ c = 98 := by
  have e : Str.ofString "b" = ⟨#[98]⟩ := by decide +kernel
  rw [e]
  simp
def unl (o : OD) (pl : Int) : OD := if pl = 0 then { o with m := chg o.m } else if pl = 1 then { o with t := chg o.t } else if pl = 2 then { o with s := if o.s = Str.ofString "sell" then Str.ofString "buy" else Str.ofString "sell" } else
  if pl = 3 then { o with c := if 1 < o.c then o.c - 1 else o.c + 1 } else { o with l := if 1 < o.l then o.l - 1 else o.l + 1 }
theorem unl_ok {o : OD} (h : ODok o) (pl : Int) : ODok (unl o pl) := by
  unfold unl
  split
  · exact ⟨chg_nm h.m, h.t, h.s, h.c0, h.c1, h.l0, h.l1⟩
  split
  · exact ⟨h.m, chg_th h.t, h.s, h.c0, h.c1, h.l0, h.l1⟩
  split
  · refine ⟨h.m, h.t, ?_, h.c0, h.c1, h.l0, h.l1⟩
    show (if o.s = Str.ofString "sell" then Str.ofString "buy" else Str.ofString "sell") = _ ∨ _
    split
    · exact .inl rfl
    · exact .inr rfl
  split
  · refine ⟨h.m, h.t, h.s, ?_, ?_, h.l0, h.l1⟩
    · show 1 ≤ (if 1 < o.c then o.c - 1 else o.c + 1)
      have := h.c0
      split <;> omega
    · show (if 1 < o.c then o.c - 1 else o.c + 1) ≤ _
      have := h.c1
      split <;> omega
  · refine ⟨h.m, h.t, h.s, h.c0, h.c1, ?_, ?_⟩
    · show _ ≤ (if 1 < o.l then o.l - 1 else o.l + 1)
      have := h.l0
      split <;> omega
    · show (if 1 < o.l then o.l - 1 else o.l + 1) ≤ _
      have := h.l1
      split <;> omega
theorem unl_ne (o : OD) (pl : Int) : o ≠ unl o pl := by
  unfold unl
  split
  · exact fun e => chg_ne _ (congrArg OD.m e).symm
  split
  · exact fun e => chg_ne _ (congrArg OD.t e).symm
  split
  · intro e
    have e2 : o.s = (if o.s = Str.ofString "sell" then Str.ofString "buy" else Str.ofString "sell") := congrArg OD.s e
    have bs : ¬ (Str.ofString "buy" = Str.ofString "sell") := by decide +kernel
    split at e2
    · rename_i h
      exact bs (e2.symm.trans h)
    · rename_i h
      exact h e2
  split
  · intro e
    have e2 : o.c = (if 1 < o.c then o.c - 1 else o.c + 1) := congrArg OD.c e
    split at e2 <;> omega
  · intro e
    have e2 : o.l = (if 1 < o.l then o.l - 1 else o.l + 1) := congrArg OD.l e
    split at e2 <;> omega
def spUnlike : Sp := fun vs H Q _ => ∃ (R : Addr) (o : OD) (pl : Int), vs = [.ref R, .int pl] ∧ H R = some (.lst (vRow (ofO o))) ∧ ODok o ∧ 0 ≤ pl ∧ pl ≤ 4 ∧ ∀ (p : Addr) (H' : Hp), Same H H' → H p = none → H' p = some (.lst (vRow (ofO (unl o pl)))) → Q (.ref p) H'
def spIs (C : Addr) : Sp := fun vs H Q _ => ∃ (p dx R : Addr) (o : OD), vs = [.ref p, .ref R] ∧ H p = some (.ins C dx (afl (ofO o))) ∧ H R = some (.lst (vRow (ofO o))) ∧ ODok o ∧ ∀ H', Same H H' → Q (.bl true) H'
def tupD (o : OD) : PyData := .tuple [.str o.m, .str o.t, .str o.s, .int o.c, .int o.l]
theorem tup_lay {o : OD} (h : ODok o) : (tupD o).canLay0 = true := by
  simp only [tupD, PyData.canLay0, PyData.canLayAll0, ltr_ok (nm_ltr h.m), ltr_ok (nm_ltr (th_nm h.t)), ltr_ok (side_ltr h.s)]
  decide
theorem tup_shaped {o : OD} (h : ODok o) : SeqAt.shaped (tupD o) = true := by
  show (tupD o).canLay0 && decide ((tupD o).depth ≤ 64) = true
  rw [tup_lay h, decide_eq_true (show (tupD o).depth ≤ 64 by simp [tupD, PyData.depth, PyData.depthAll])]
  rfl
theorem tup_eqv {o : OD} (h : ODok o) : PyData.eqv (tupD o) (tupD o) = true := SeqAt.eqv_refl _ (tup_lay h)
theorem tup_dp {K : PySem.W.Frag} {H : Hp} {a : Addr} {o : OD} (h : H a = some (.tup (vRow (ofO o)))) : Dp K H (.ref a) (tupD o) := .tup (SqT.of h) (.cons (.str _) (.cons (.str _) (.cons (.str _) (.cons (.int _) (.cons (.int _) .nil)))))
theorem Same.new' {H : Hp} {p : Addr} {o u : HO} (n : H p = none) : Same H (upd (upd H p o) p u) := fun c v e => by rw [upd_ne (ne_of_none e n), upd_ne (ne_of_none e n)]; exact e
section
variable {P : Program} {w : World} {K : PySem.W.Frag} {mg : Str → Option Value} {base : Heap} {C B M : Addr}
abbrev s_is : Stmt := top 25
theorem sc_is : FnScope ["order", "row", "told", "number"] ["order", "row"] (defScope s_is) := ⟨rfl, rfl, rfl, by decide +kernel, rfl, by decide +kernel, by decide +kernel⟩
theorem ok_is {f : Addr} {fd : FuncData} (F : Fun K "_law_is" "_law_is" s_is f fd) (T : TxtE K mg C B M) (D_sign : PDef P w K mg base C "sign" 1 (spSign C)) : FnOk P w K mg base CX0 3 f fd ["order", "row"] (spIs C) := by
  refine F.ok sc_is (fun vs H Q E h => ?_) (fun cdv A outer s H vs Q E hr h => ?_)
  · obtain ⟨p, dx, R, o, rfl, _⟩ := h
    rfl
  · obtain ⟨p, dx, R, o, rfl, hp, hR, ok, k⟩ := h
    have hcl := T.cl_Order
    have TO := T.toTxtO
    refine ⟨_, (pss_cons (ps_if (pt_not (pt_val (pe_callB call_isi (by rfl) T.b_isinstance (by decide +kernel) (pa_cons (pv 0) (pa_cons (pe_glob (v := .ref C) rfl T.c_Order rfl) pa_nil))))) (pss_one (ps_ret pe_bl)) pss_nil)
      (pss_cons (ps_set (i := 2) sc_is.nd rfl (.inl rfl) (pe_tup (pa_cons (pe_fld (pv 0) rfl) (pa_cons (pe_fld (pv 0) rfl) (pa_cons (pe_fld (pv 0) rfl) (pa_cons (pe_fld (pv 0) rfl) (pa_cons (pe_fld (pv 0) rfl) pa_nil)))))))
      (pss_cons (ps_for PassesOwn.never rfl (pi_list (pe_lst (pa_cons (pe_fld (pv 0) rfl) (pa_cons (pe_fld (pv 0) rfl) (pa_cons (pe_prop (pv 0) T.cl_Order D_sign.po D_sign.ok (hr.mono (by decide)) D_sign.b .nil pass0 rfl) pa_nil))))) (pg_name (i := 3) sc_is.nd rfl (.inl rfl))
      (pss_one (ps_if (PW.pt (pw_or (pt_not (pt_val (pe_callB call_isi (by rfl) T.b_isinstance (by decide +kernel) (pa_cons (pv 3) (pa_cons (pe_bltn (v := .ty "int") (by rfl) T.b_int (by decide +kernel) rfl) pa_nil))))) (pw_or1 (pt_val (pe_callB call_isi (by rfl) T.b_isinstance (by decide +kernel) (pa_cons (pv 3) (pa_cons (pe_bltn (v := .ty "bool") (by rfl) T.b_bool (by decide +kernel) rfl) pa_nil))))))) (pss_one (ps_ret pe_bl)) pss_nil)))
      (pss_one (ps_ret (pe_and (pe_cmpR (op_eqD hr.units) (pv 2) (pe_callTy call_tuple_of (by rfl) T.b_tuple (by decide +kernel) (pa_cons (pv 1) pa_nil)) (nomark _)) (pe_one (pe_cmpR op_eq (pe_prop (pv 0) T.cl_Order D_sign.po D_sign.ok (hr.mono (by decide)) D_sign.b .nil pass0 rfl) (pe_ifExp (pt_cmpR op_eq (pe_ix ix_list (pv 1) pe_int (fun _ _ => rfl)) pe_str (nomark _)) pe_int (pe_un un_neg pe_int)) (nomark _))))))))), ?_⟩
    walk_at "rd"
    refine ⟨_, _, _, _, true, rfl, .own C, .base (.ins hp T.cl_Order T.isi.ca T.isi.cn T.isi.ct T.isi.cm), T.ko, ?_⟩
    walk_at "rd"
    refine ⟨by show 5 ≤ sizeLine; decide, fun tp ntp => ?_⟩
    have s1 : Same H (upd H tp (.tup [(ofO o).m, (ofO o).t, (ofO o).s, (ofO o).c, (ofO o).l])) := Same.new (Same.refl H) ntp
    have ht1 : (upd H tp (.tup [(ofO o).m, (ofO o).t, (ofO o).s, (ofO o).c, (ofO o).l])) tp = some (.tup (vRow (ofO o))) := upd_same
    revert s1 ht1
    generalize upd H tp (.tup [(ofO o).m, (ofO o).t, (ofO o).s, (ofO o).c, (ofO o).l]) = H1
    intro s1 ht1
    have hp1 := s1 _ _ hp
    have hR1 := s1 _ _ hR
    walk_at "rd"
    refine ⟨_, _, _, rfl, hp1, p, dx, ofO o, o.s, rfl, hp1, rfl, ?_⟩
    walk_at "rd"
    refine ⟨by show 3 ≤ sizeLine; decide, fun L nL => ?_⟩
    have s2 : Same H1 (upd H1 L (.lst [(ofO o).c, (ofO o).l, .int (sgn o.s)])) := Same.new (Same.refl H1) nL
    have hL : (upd H1 L (.lst [(ofO o).c, (ofO o).l, .int (sgn o.s)])) L = some (.lst [.int o.c, .int o.l, .int (sgn o.s)]) := upd_same
    revert s2 hL
    generalize upd H1 L (.lst [(ofO o).c, (ofO o).l, .int (sgn o.s)]) = H2
    intro s2 hL
    refine ⟨L, rfl, ⟨_, SqL.of hL⟩, ?_⟩
    refine for_it walk_list (fun i σ H' => ∃ (v3 : Option V), σ = [some (.ref p), some (.ref R), some (.ref tp), v3] ∧ H' = H2) ⟨none, rfl, rfl⟩ (fun _ _ _ _ ⟨_, _, e⟩ => SqL.of (by rw [e]; exact hL)) ?_ ?_
    · rintro i x σ H3 H4 hi ⟨v3, rfl, rfl⟩ ⟨rfl, hx⟩
      obtain ⟨z, rfl⟩ : ∃ z : Int, x = .int z := by
        have m := List.mem_of_getElem? hx
        simp only [List.mem_cons, List.not_mem_nil, or_false] at m
        rcases m with rfl | rfl | rfl
        all_goals exact ⟨_, rfl⟩
      walk_at "rd"
      refine ⟨_, _, _, _, true, rfl, .ty _, .base (.int z), kit_ty (by decide +kernel), ?_⟩
      walk_at "rd"
      refine ⟨_, _, _, _, false, rfl, .ty _, .base (.int z), kit_ty (by decide +kernel), ?_⟩
      walk_at "rd"
      exact rfl
    · rintro σ H3 ⟨v3, rfl, rfl⟩
      have hR2 := s2 _ _ hR1
      have hp2 := s2 _ _ hp1
      have ht2 := s2 _ _ ht1
      walk_at "rd"
      refine ⟨R, _, rfl, .inl ⟨SqL.of hR2, fun l nl => ?_⟩⟩
      have s3 : Same H3 (upd H3 l (.tup (vRow (ofO o)))) := Same.new (Same.refl H3) nl
      refine ⟨_, _, tup_dp (s3 _ _ ht2), tup_dp upd_same, tup_shaped ok, tup_shaped ok, ?_⟩
      rw [tup_eqv ok]
      have hR3 := s3 _ _ hR2
      have hp3 := s3 _ _ hp2
      revert s3 hR3 hp3
      generalize upd H3 l (.tup (vRow (ofO o))) = H4
      intro s3 hR3 hp3
      unfold vRow ofO at hR3
      walk_at "rd"
      refine ⟨_, _, _, rfl, hp3, p, dx, ofO o, o.s, rfl, hp3, rfl, ?_⟩
      walk_at "rd"
      have q := k H4 ((s1.trans s2).trans s3)
      refine ite2 (fun c => ?_) (fun c => ?_)
      · walk_at "rd"
        have e : o.s = Str.ofString "buy" := by simpa using c
        rwa [show decide (V.int (sgn o.s) = V.int 1) = true from by unfold sgn; rw [if_pos e]; rfl]
      · walk_at "rd"
        have e : o.s ≠ Str.ofString "buy" := by simpa using c
        rwa [show decide (V.int (sgn o.s) = V.int (-1)) = true from by unfold sgn; rw [if_neg e]; rfl]
abbrev s_unlike : Stmt := top 26
theorem sc_unlike : FnScope ["row", "place", "other"] ["row", "place"] (defScope s_unlike) := ⟨rfl, rfl, rfl, by decide +kernel, rfl, by decide +kernel, by decide +kernel⟩
theorem ok_unlike {f : Addr} {fd : FuncData} (F : Fun K "_law_unlike" "_law_unlike" s_unlike f fd) (T : TxtE K mg C B M) : FnOk P w K mg base CX0 1 f fd ["row", "place"] spUnlike := by
  refine F.ok sc_unlike (fun vs H Q E h => ?_) (fun cdv A outer s H vs Q E hr h => ?_)
  · obtain ⟨R, o, pl, rfl, _⟩ := h
    rfl
  · obtain ⟨R, o, pl, rfl, hR, ok, p0, p4, k⟩ := h
    have hR' : H R = some (.lst [.str o.m, .str o.t, .str o.s, .int o.c, .int o.l]) := hR
    clear hR
    have done : ∀ (l : Addr) (xs ys : List V), H l = none → ys = vRow (ofO (unl o pl)) → Q (.ref l) (upd (upd H l (.lst xs)) l (.lst ys)) := fun l xs ys nl e => k l _ (Same.new' nl) nl (by rw [upd_same, e])
    refine ⟨_, (pss_cons (ps_set (i := 2) sc_unlike.nd rfl (.inl rfl) (pe_callTy call_list_of (by rfl) T.b_list (by decide +kernel) (pa_cons (pv 0) pa_nil)))
      (pss_cons (ps_if (pt_cmpR op_lt (pv 1) pe_int (nomark _)) (pss_one (ps_asg (pe_op op_add_str (pe_slice sl_str (pe_ix ix_list (pv 0) (pv 1) (fun _ _ => rfl)) po_none (po_some (pe_un un_neg pe_int))) (pe_ifExp (pt_cmpR op_ne (pe_ix ix_str (pe_ix ix_list (pv 0) (pv 1) (fun _ _ => rfl)) (pe_un un_neg pe_int) (fun _ _ => rfl)) pe_str (nomark _)) pe_str pe_str)) (pg_sub (pv 2) (pv 1) set_list))) (pss_one (ps_if (pt_cmpR op_eq (pv 1) pe_int (nomark _)) (pss_one (ps_asg (pe_ifExp (pt_cmpR op_eq (pe_ix ix_list (pv 0) pe_int (fun _ _ => rfl)) pe_str (nomark _)) pe_str pe_str) (pg_sub (pv 2) pe_int set_list))) (pss_one (ps_asg (pe_ifExp (pt_cmpR op_gt (pe_ix ix_list (pv 0) (pv 1) (fun _ _ => rfl)) pe_int (nomark _)) (pe_op op_sub (pe_ix ix_list (pv 0) (pv 1) (fun _ _ => rfl)) pe_int) (pe_op op_add (pe_ix ix_list (pv 0) (pv 1) (fun _ _ => rfl)) pe_int)) (pg_sub (pv 2) (pv 1) set_list))))))
      (pss_one (ps_ret (pv 2))))), ?_⟩
    walk_at "rd"
    refine fun l nl => ?_
    have hRl : (upd H l (.lst [V.str o.m, V.str o.t, V.str o.s, V.int o.c, V.int o.l])) R = some (.lst [V.str o.m, V.str o.t, V.str o.s, V.int o.c, V.int o.l]) := by rw [upd_ne (ne_of_none hR' nl)]; exact hR'
    walk_at "rd"
    rcases (show pl = 0 ∨ pl = 1 ∨ pl = 2 ∨ pl = 3 ∨ pl = 4 by omega) with e | e | e | e | e
    · subst e
      have nm : isNm o.m = true := ok.m
      have n1 := nm_lo nm
      have n2 := nm_hi nm
      refine ite2 (fun _ => ?_) (fun c => absurd (by decide) c)
      walk_at "rd"
      refine ⟨_, _, _, rfl, rfl, Nat.le_trans (show o.m.length ≤ 1000 by omega) (by decide), at_last n1, ?_⟩
      walk_at "rd"
      refine ite2 (fun c => ?_) (fun c => ?_)
      · have hc : ¬ lastc o.m = 98 := fun z => by rw [z] at c; exact absurd c (by decide +kernel)
        have ec : cutS o.m none (some (-1)) ++ Str.ofString "b" = chg o.m := by unfold chg; rw [if_neg hc]
        walk_at "rd"
        refine ⟨_, _, rfl, rfl, Nat.le_trans (show (cutS o.m none (some (-1))).length + (Str.ofString "b").length ≤ 1000 by rw [cut_last n1, show (Str.ofString "b").length = 1 by decide +kernel]; omega) (by decide), ?_⟩
        walk_at "rd"
        rw [ec]
        exact done l _ _ nl rfl
      · have hc : lastc o.m = 98 := Classical.byContradiction fun z => c (by rw [decide_eq_false (fun q => z ((isb _).mp q))]; rfl)
        have ec : cutS o.m none (some (-1)) ++ Str.ofString "c" = chg o.m := by unfold chg; rw [if_pos hc]
        walk_at "rd"
        refine ⟨_, _, rfl, rfl, Nat.le_trans (show (cutS o.m none (some (-1))).length + (Str.ofString "c").length ≤ 1000 by rw [cut_last n1, show (Str.ofString "c").length = 1 by decide +kernel]; omega) (by decide), ?_⟩
        walk_at "rd"
        rw [ec]
        exact done l _ _ nl rfl
    · subst e
      have nm : isNm o.t = true := th_nm ok.t
      have n1 := nm_lo nm
      have n2 := nm_hi nm
      refine ite2 (fun _ => ?_) (fun c => absurd (by decide) c)
      walk_at "rd"
      refine ⟨_, _, _, rfl, rfl, Nat.le_trans (show o.t.length ≤ 1000 by omega) (by decide), at_last n1, ?_⟩
      walk_at "rd"
      refine ite2 (fun c => ?_) (fun c => ?_)
      · have hc : ¬ lastc o.t = 98 := fun z => by rw [z] at c; exact absurd c (by decide +kernel)
        have ec : cutS o.t none (some (-1)) ++ Str.ofString "b" = chg o.t := by unfold chg; rw [if_neg hc]
        walk_at "rd"
        refine ⟨_, _, rfl, rfl, Nat.le_trans (show (cutS o.t none (some (-1))).length + (Str.ofString "b").length ≤ 1000 by rw [cut_last n1, show (Str.ofString "b").length = 1 by decide +kernel]; omega) (by decide), ?_⟩
        walk_at "rd"
        rw [ec]
        exact done l _ _ nl rfl
      · have hc : lastc o.t = 98 := Classical.byContradiction fun z => c (by rw [decide_eq_false (fun q => z ((isb _).mp q))]; rfl)
        have ec : cutS o.t none (some (-1)) ++ Str.ofString "c" = chg o.t := by unfold chg; rw [if_pos hc]
        walk_at "rd"
        refine ⟨_, _, rfl, rfl, Nat.le_trans (show (cutS o.t none (some (-1))).length + (Str.ofString "c").length ≤ 1000 by rw [cut_last n1, show (Str.ofString "c").length = 1 by decide +kernel]; omega) (by decide), ?_⟩
        walk_at "rd"
        rw [ec]
        exact done l _ _ nl rfl
    · subst e
      refine ite2 (fun c => absurd c (by decide)) (fun _ => ?_)
      walk_at "rd"
      refine ite2 (fun _ => ?_) (fun c => absurd (by decide) c)
      walk_at "rd"
      refine ite2 (fun c => ?_) (fun c => ?_)
      · have hc : o.s = Str.ofString "sell" := by simpa using c
        walk_at "rd"
        exact done l _ _ nl (by show _ = [V.str o.m, .str o.t, .str (if o.s = Str.ofString "sell" then Str.ofString "buy" else Str.ofString "sell"), .int o.c, .int o.l]; rw [if_pos hc]; rfl)
      · have hc : ¬ o.s = Str.ofString "sell" := by simpa using c
        walk_at "rd"
        exact done l _ _ nl (by show _ = [V.str o.m, .str o.t, .str (if o.s = Str.ofString "sell" then Str.ofString "buy" else Str.ofString "sell"), .int o.c, .int o.l]; rw [if_neg hc]; rfl)
    · subst e
      refine ite2 (fun c => absurd c (by decide)) (fun _ => ?_)
      walk_at "rd"
      refine ite2 (fun c => absurd c (by decide)) (fun _ => ?_)
      walk_at "rd"
      refine ite2 (fun c => ?_) (fun c => ?_)
      · have hc : 1 < o.c := by simpa using c
        walk_at "rd"
        exact done l _ _ nl (by show _ = [V.str o.m, .str o.t, .str o.s, .int (if 1 < o.c then o.c - 1 else o.c + 1), .int o.l]; rw [if_pos hc]; rfl)
      · have hc : ¬ 1 < o.c := by simpa using c
        walk_at "rd"
        exact done l _ _ nl (by show _ = [V.str o.m, .str o.t, .str o.s, .int (if 1 < o.c then o.c - 1 else o.c + 1), .int o.l]; rw [if_neg hc]; rfl)
    · subst e
      refine ite2 (fun c => absurd c (by decide)) (fun _ => ?_)
      walk_at "rd"
      refine ite2 (fun c => absurd c (by decide)) (fun _ => ?_)
      walk_at "rd"
      refine ite2 (fun c => ?_) (fun c => ?_)
      · have hc : 1 < o.l := by simpa using c
        walk_at "rd"
        exact done l _ _ nl (by show _ = [V.str o.m, .str o.t, .str o.s, .int o.c, .int (if 1 < o.l then o.l - 1 else o.l + 1)]; rw [if_pos hc]; rfl)
      · have hc : ¬ 1 < o.l := by simpa using c
        walk_at "rd"
        exact done l _ _ nl (by show _ = [V.str o.m, .str o.t, .str o.s, .int o.c, .int (if 1 < o.l then o.l - 1 else o.l + 1)]; rw [if_neg hc]; rfl)
end
end KK

local macro_rules
  | `(tactic| walk_at "rd_f") => `(tactic| first | exact KK.fl_m _ | exact KK.fl_t _ | exact KK.fl_s _ | exact KK.fl_c _ | exact KK.fl_l _)
local macro_rules
  | `(tactic| walk_at "rd_n") => `(tactic| (refine KK.TxtO.na (by assumption) _ ?_; decide +kernel))
local macro_rules
  | `(tactic| walk_at "rd1") => `(tactic| with_reducible first | (apply RX.mkS; (with_unfolding_all rfl)) | (apply RX.methS; (with_unfolding_all rfl)) | apply RX.xf)
namespace KK
open PySem PySem.Spec PyProof.Rows L2
structure EqDef (P : Program) (w : World) (K : PySem.W.Frag) (mg : Str → Option Value) (base : Heap) (C : Addr) (k : Nat) (ps : List Str) (sp : Sp) where
  f : Addr
  fd : FuncData
  own : PySem.W.findIn K (.ref C) "__eq__" = some (some (.ref f))
  fn : PySem.W.isFn K (.ref f) = true
  ne : RX.NeC K C f
  ok : FnOk P w K mg base CX0 k f fd ps sp
  b : Binds K fd ps []
def spGood : Sp := fun vs H Q _ => ∃ (b R : Addr) (o : OD), vs = [.ref b, .ref R] ∧ Bag H b ∧ H R = some (.lst (vRow (ofO o))) ∧ R ≠ b ∧ ODok o ∧ ∀ H', Ext b H H' → Q (.bl true) H'
/-- while one row is asked: the order at p, the row at R -/
structure Ask (b p dx R : Addr) (C : Addr) (o : OD) (H0 H : Hp) : Prop where
  e : Ext b H0 H
  hp : H p = some (.ins C dx (afl (ofO o)))
  hR : H R = some (.lst (vRow (ofO o)))
theorem bag_ins {H : Hp} {b p C dx : Addr} {fs : List (Str × V)} (hb : Bag H b) (h : H p = some (.ins C dx fs)) : p ≠ b := fun e => by
  obtain ⟨x, y, q⟩ := hb
  rw [e, q] at h
  cases h
theorem bag_row {H : Hp} {b p : Addr} {o : RV} (hb : Bag H b) (h : H p = some (.lst (vRow o))) : p ≠ b := fun e => by
  obtain ⟨x, y, q⟩ := hb
  rw [e, q] at h
  have h2 := HO.lst.inj (Option.some.inj h)
  exact absurd (congrArg List.length h2) (show ¬ 2 = 5 by decide)
theorem same_bag {H H' : Hp} {b : Addr} (hb : Bag H b) (s : Same H H') : Ext b H H' := by
  obtain ⟨x, y, q⟩ := hb
  exact ⟨⟨x, y, s _ _ q⟩, fun c o e _ => s c o e⟩
theorem Ask.same {b p dx R C : Addr} {o : OD} {H0 H H' : Hp} (a : Ask b p dx R C o H0 H) (s : Same H H') : Ask b p dx R C o H0 H' := ⟨a.e.trans (same_bag a.e.1 s), s _ _ a.hp, s _ _ a.hR⟩
theorem Ask.ext {b p dx R C : Addr} {o : OD} {H0 H H' : Hp} (a : Ask b p dx R C o H0 H) (s : Ext b H H') : Ask b p dx R C o H0 H' := ⟨a.e.trans s, s.2 _ _ a.hp (bag_ins a.e.1 a.hp), s.2 _ _ a.hR (bag_row a.e.1 a.hR)⟩
theorem nf_own {K : PySem.W.Frag} {C : Addr} : PySem.W.notFirst K C (.ref C) = true := by
  unfold PySem.W.notFirst
  simp
theorem eqO_own {K : PySem.W.Frag} {C p dx q dy : Addr} {o u : OD} {H : Hp} {Q : VK} (hp : H p = some (.ins C dx (afl (ofO o)))) (hq : H q = some (.ins C dy (afl (ofO u)))) (h : Q (.bl (decide (o = u))) H) : RX.rEqO K C (spEq K C) E0 (.ref p) (.ref q) H Q :=
  ⟨p, dx, _, _, rfl, hp, .own hq, nf_own, p, dx, o, _, rfl, hp, .inl ⟨q, dy, u, rfl, hq, h⟩⟩
theorem neO_own {K : PySem.W.Frag} {C p dx q dy : Addr} {o u : OD} {H : Hp} {Q : VK} (hp : H p = some (.ins C dx (afl (ofO o)))) (hq : H q = some (.ins C dy (afl (ofO u)))) (h : Q (.bl (!decide (o = u))) H) : RX.rNeO C (spEq K C) E0 (.ref p) (.ref q) H Q :=
  ⟨p, dx, _, q, dy, _, rfl, rfl, hp, hq, p, dx, o, _, rfl, hp, .inl ⟨q, dy, u, rfl, hq, _, rfl, h⟩⟩
theorem eqO_val {K : PySem.W.Frag} {mg : Str → Option Value} {C B M p dx : Addr} {o : OD} {H : Hp} {Q : VK} {y : V} {n : String} (T : TxtE K mg C B M) (hn : n ∈ (["NoneType", "int", "list", "tuple", "str"] : List String)) (ty : TyX K H y (.type n)) (hp : H p = some (.ins C dx (afl (ofO o)))) (h : Q (.bl false) H) :
    RX.rEqO K C (spEq K C) E0 (.ref p) y H Q :=
  ⟨p, dx, _, _, rfl, hp, .val ty, T.nf n hn, p, dx, o, _, rfl, hp, .inr ⟨n, hn, ty, h⟩⟩
theorem bad_c {o : OD} (h : ODok o) {v : V} (w : whV 1 1000000 v = false) : bad { ofO o with c := v } = some (Str.ofString "count") := by
  unfold bad
  rw [show nmV ({ ofO o with c := v } : RV).m = true from h.m, show thV ({ ofO o with c := v } : RV).t = true from h.t, show sdV ({ ofO o with c := v } : RV).s = true from decide_eq_true h.s, show whV 1 1000000 ({ ofO o with c := v } : RV).c = false from w]
  rfl
theorem ok_c {o : OD} (h : ODok o) {z : Int} (z0 : 1 ≤ z) (z1 : z ≤ 1000000) : ODok { o with c := z } := ⟨h.m, h.t, h.s, z0, z1, h.l0, h.l1⟩
section
variable {P : Program} {w : World} {K : PySem.W.Frag} {mg : Str → Option Value} {base : Heap} {C B M : Addr}
abbrev s_goodone : Stmt := top 27
theorem sc_goodone : FnScope ["bag", "row", "order", "place", "other", "thing", "count", "turn", "wrong"] ["bag", "row"] (defScope s_goodone) := ⟨rfl, rfl, rfl, by decide +kernel, rfl, by decide +kernel, by decide +kernel⟩
theorem ok_good {f : Addr} {fd : FuncData} (F : Fun K "_law_good_one" "_law_good_one" s_goodone f fd) (T : TxtE K mg C B M) (D_take : Def P w K mg base "_law_take" 1 ["bag", "many"] spTake) (D_wrong : Def P w K mg base "_law_wrong" 3 ["bag", "place", "name"] spWrong)
    (D_made : Def P w K mg base "_law_made" 6 ["row"] (spMade C)) (D_counted : Def P w K mg base "_law_counted" 7 ["order", "count"] (spCounted C)) (D_is : Def P w K mg base "_law_is" 3 ["order", "row"] (spIs C)) (D_unlike : Def P w K mg base "_law_unlike" 1 ["row", "place"] spUnlike)
    (D_eq : EqDef P w K mg base C 1 ["self", "other"] (spEq K C)) : FnOk P w K mg base CX0 8 f fd ["bag", "row"] spGood := by
  refine F.ok sc_goodone (fun vs H Q E h => ?_) (fun cdv A outer s H vs Q E hr h => ?_)
  · obtain ⟨b, R, o, rfl, _⟩ := h
    rfl
  · obtain ⟨b, R, o, rfl, hb, hR, nR, ok, k⟩ := h
    have gb := good_bad ok
    have no : ∀ {wd : Str} {P : Prop}, bad (ofO o) = some wd → P := fun e => by rw [gb] at e; cases e
    refine ⟨_, (pss_cons (ps_set (i := 2) sc_goodone.nd rfl (.inl rfl) (pe_call D_made.ok (hr.mono (by decide)) (by rfl) D_made.mg D_made.kp D_made.b .nil pass0 (pa_cons (pv 1) pa_nil)))
      (pss_cons (ps_if (PW.pt (pw_or (pt_not (pt_val (pe_call D_is.ok (hr.mono (by decide)) (by rfl) D_is.mg D_is.kp D_is.b .nil pass0 (pa_cons (pv 2) (pa_cons (pv 1) pa_nil))))) (pw_or1 (pt_not (pt_val (pe_call D_is.ok (hr.mono (by decide)) (by rfl) D_is.mg D_is.kp D_is.b .nil pass0 (pa_cons (pe_call D_made.ok (hr.mono (by decide)) (by rfl) D_made.mg D_made.kp D_made.b .nil pass0 (pa_cons (pe_callTy call_list_of (by rfl) T.b_list (by decide +kernel) (pa_cons (pv 1) pa_nil)) pa_nil)) (pa_cons (pv 1) pa_nil)))))))) (pss_one (ps_ret pe_bl)) pss_nil)
      (pss_cons (ps_if (PW.pt (pw_or (pt_not (pt_cmpR (RX.op_eqO D_eq.own D_eq.fn D_eq.ok (hr.mono (by decide)) D_eq.b pass0) (pv 2) (pe_call D_made.ok (hr.mono (by decide)) (by rfl) D_made.mg D_made.kp D_made.b .nil pass0 (pa_cons (pv 1) pa_nil)) (nomark _))) (pw_or1 (pt_cmpR (RX.op_neO D_eq.ne D_eq.ok (hr.mono (by decide)) D_eq.b pass0) (pv 2) (pe_call D_made.ok (hr.mono (by decide)) (by rfl) D_made.mg D_made.kp D_made.b .nil pass0 (pa_cons (pv 1) pa_nil)) (nomark _))))) (pss_one (ps_ret pe_bl)) pss_nil)
      (pss_cons (ps_for PassesOwn.never rfl (pi_range1 (by rfl) T.b_range (pa_cons pe_int pa_nil)) (pg_name (i := 3) sc_goodone.nd rfl (.inl rfl))
      (pss_cons (ps_set (i := 4) sc_goodone.nd rfl (.inl rfl) (pe_call D_made.ok (hr.mono (by decide)) (by rfl) D_made.mg D_made.kp D_made.b .nil pass0 (pa_cons (pe_call D_unlike.ok (hr.mono (by decide)) (by rfl) D_unlike.mg D_unlike.kp D_unlike.b .nil pass0 (pa_cons (pv 1) (pa_cons (pv 3) pa_nil))) pa_nil)))
      (pss_one (ps_if (PW.pt (pw_or (pt_not (pt_val (pe_call D_is.ok (hr.mono (by decide)) (by rfl) D_is.mg D_is.kp D_is.b .nil pass0 (pa_cons (pv 4) (pa_cons (pe_call D_unlike.ok (hr.mono (by decide)) (by rfl) D_unlike.mg D_unlike.kp D_unlike.b .nil pass0 (pa_cons (pv 1) (pa_cons (pv 3) pa_nil))) pa_nil))))) (pw_or (pt_cmpR (RX.op_eqO D_eq.own D_eq.fn D_eq.ok (hr.mono (by decide)) D_eq.b pass0) (pv 2) (pv 4) (nomark _)) (pw_or1 (pt_not (pt_cmpR (RX.op_neO D_eq.ne D_eq.ok (hr.mono (by decide)) D_eq.b pass0) (pv 2) (pv 4) (nomark _))))))) (pss_one (ps_ret pe_bl)) pss_nil))))
      (pss_cons (ps_for PassesOwn.never rfl (pi_list (pe_lst (pa_cons pe_non (pa_cons pe_int (pa_cons (pe_callTy call_tuple_of (by rfl) T.b_tuple (by decide +kernel) (pa_cons (pv 1) pa_nil)) (pa_cons (pe_callTy call_list_of (by rfl) T.b_list (by decide +kernel) (pa_cons (pv 1) pa_nil)) (pa_cons (pe_ix ix_list (pv 1) pe_int (fun _ _ => rfl)) pa_nil))))))) (pg_name (i := 5) sc_goodone.nd rfl (.inl rfl))
      (pss_one (ps_if (pt_cmpR (RX.op_eqO D_eq.own D_eq.fn D_eq.ok (hr.mono (by decide)) D_eq.b pass0) (pv 2) (pv 5) (nomark _)) (pss_one (ps_ret pe_bl)) pss_nil)))
      (pss_cons (ps_for PassesOwn.never rfl (pi_list (pe_lst (pa_cons pe_int (pa_cons (pe_op op_pow pe_int pe_int) (pa_cons (pe_ix ix_list (pv 1) pe_int (fun _ _ => rfl)) (pa_cons (pe_op op_add pe_int (pe_call D_take.ok (hr.mono (by decide)) (by rfl) D_take.mg D_take.kp D_take.b .nil pass0 (pa_cons (pv 0) (pa_cons (pe_op op_pow pe_int pe_int) pa_nil)))) pa_nil)))))) (pg_name (i := 6) sc_goodone.nd rfl (.inl rfl))
      (pss_one (ps_if (pt_not (pt_val (pe_call D_is.ok (hr.mono (by decide)) (by rfl) D_is.mg D_is.kp D_is.b .nil pass0 (pa_cons (pe_call D_counted.ok (hr.mono (by decide)) (by rfl) D_counted.mg D_counted.kp D_counted.b .nil pass0 (pa_cons (pv 2) (pa_cons (pv 6) pa_nil))) (pa_cons (pe_op op_cat (pe_op op_cat (pe_slice sl_list (pv 1) po_none (po_some pe_int)) (pe_lst (pa_cons (pv 6) pa_nil))) (pe_slice sl_list (pv 1) (po_some pe_int) po_none)) pa_nil))))) (pss_one (ps_ret pe_bl)) pss_nil)))
      (pss_cons (ps_for PassesOwn.never rfl (pi_range1 (by rfl) T.b_range (pa_cons pe_int pa_nil)) (pg_name (i := 7) sc_goodone.nd rfl (.inl rfl))
      (pss_cons (ps_set (i := 8) sc_goodone.nd rfl (.inl rfl) (pe_call D_wrong.ok (hr.mono (by decide)) (by rfl) D_wrong.mg D_wrong.kp D_wrong.b .nil pass0 (pa_cons (pv 0) (pa_cons pe_int (pa_cons pe_str pa_nil)))))
      (pss_one (ps_if (PW.pt (pw_or (pt_cmpR op_ne (pe_call D_counted.ok (hr.mono (by decide)) (by rfl) D_counted.mg D_counted.kp D_counted.b .nil pass0 (pa_cons (pv 2) (pa_cons (pv 8) pa_nil))) pe_str (nomark _)) (pw_or1 (pt_not (pt_val (pe_call D_is.ok (hr.mono (by decide)) (by rfl) D_is.mg D_is.kp D_is.b .nil pass0 (pa_cons (pv 2) (pa_cons (pv 1) pa_nil)))))))) (pss_one (ps_ret pe_bl)) pss_nil))))
      (pss_one (ps_ret pe_bl))))))))), ?_⟩
    walk_at "rd"
    refine ⟨R, ofO o, rfl, hR, good_args ok H, fun _ p dx H1 s1 np hp => ?_, fun wd e => no e⟩
    have a1 : Ask b p dx R C o H H1 := ⟨same_bag hb s1, hp, s1 _ _ hR⟩
    walk_at "rd"
    refine ⟨p, dx, R, o, rfl, a1.hp, a1.hR, ok, fun H2 s2 => ?_⟩
    have a2 := a1.same s2
    walk_at "rd"
    have hR2 := a2.hR
    refine ⟨R, _, rfl, .inl (SqL.of hR2), fun l nl => ?_⟩
    have s3 : Same H2 (upd H2 l (.lst (vRow (ofO o)))) := Same.new (Same.refl H2) nl
    have a3 := a2.same s3
    walk_at "rd"
    refine ⟨l, ofO o, rfl, upd_same, good_args ok _, fun _ q dy H4 s4 nq hq => ?_, fun wd e => no e⟩
    have a4 := a3.same s4
    clear a1 a2 a3
    walk_at "rd"
    refine ⟨q, dy, R, o, rfl, hq, a4.hR, ok, fun H5 s5 => ?_⟩
    have a5 := a4.same s5
    walk_at "rd"
    refine ⟨R, ofO o, rfl, a5.hR, good_args ok _, fun _ q2 dy2 H6 s6 nq2 hq2 => ?_, fun wd e => no e⟩
    have a6 := a5.same s6
    refine eqO_own a6.hp hq2 ?_
    rw [decide_eq_true (rfl : o = o)]
    walk_at "rd"
    refine ⟨R, ofO o, rfl, a6.hR, good_args ok _, fun _ q3 dy3 H7 s7 nq3 hq3 => ?_, fun wd e => no e⟩
    have a7 := a6.same s7
    refine neO_own a7.hp hq3 ?_
    rw [decide_eq_true (rfl : o = o)]
    walk_at "rd"
    clear a6 a5 a4 hq hq2 hq3 nq nq2 nq3 s4 s5 s6 s7 s3 s2 hR2 nl
    refine ⟨by decide, by decide, ?_⟩
    refine for_range (lo := 0) (n := 5) (fun i σ H' => ∃ (v3 v4 v5 v6 v7 v8 : Option V), σ = [some (.ref b), some (.ref R), some (.ref p), v3, v4, v5, v6, v7, v8] ∧ Ask b p dx R C o H H') ⟨_, _, _, _, _, _, rfl, a7⟩ ?_ ?_
    · clear a7
      rintro i σ H1 hi ⟨v3, v4, v5, v6, v7, v8, rfl, a⟩
      have uo := unl_ok ok (0 + i)
      have nu : ∀ {wd : Str} {P : Prop}, bad (ofO (unl o (0 + i))) = some wd → P := fun e => by rw [good_bad uo] at e; cases e
      walk_at "rd"
      refine ⟨R, o, 0 + i, rfl, a.hR, ok, by omega, by omega, fun u H2 s2 _ hu => ?_⟩
      have a2 := a.same s2
      walk_at "rd"
      refine ⟨u, ofO (unl o (0 + i)), rfl, hu, good_args uo _, fun _ q dy H3 s3 _ hq => ?_, fun wd e => nu e⟩
      have a3 := a2.same s3
      walk_at "rd"
      refine ⟨R, o, 0 + i, rfl, a3.hR, ok, by omega, by omega, fun u2 H4 s4 _ hu2 => ?_⟩
      have a4 := a3.same s4
      have hq4 := s4 _ _ hq
      walk_at "rd"
      refine ⟨q, dy, u2, unl o (0 + i), rfl, hq4, hu2, uo, fun H5 s5 => ?_⟩
      have a5 := a4.same s5
      have hq5 := s5 _ _ hq4
      walk_at "rd"
      refine eqO_own a5.hp hq5 ?_
      rw [decide_eq_false (unl_ne o (0 + i))]
      walk_at "rd"
      refine neO_own a5.hp hq5 ?_
      rw [decide_eq_false (unl_ne o (0 + i))]
      walk_at "rd"
      exact ⟨_, _, _, _, _, _, rfl, a5⟩
    clear a7
    rintro σ H1 ⟨v3, v4, v5, v6, v7, v8, rfl, a⟩
    have hR1 := a.hR
    walk_at "rd"
    refine ⟨R, _, rfl, .inl ⟨SqL.of hR1, fun l nl => ?_⟩⟩
    have s2 : Same H1 (upd H1 l (.tup (vRow (ofO o)))) := Same.new (Same.refl H1) nl
    have hl : (upd H1 l (.tup (vRow (ofO o)))) l = some (.tup (vRow (ofO o))) := upd_same
    revert s2 hl
    generalize upd H1 l (.tup (vRow (ofO o))) = H2
    intro s2 hl
    have a2 := a.same s2
    have hR2 := a2.hR
    walk_at "rd"
    refine fun l2 nl2 => ?_
    have s3 : Same H2 (upd H2 l2 (.lst (vRow (ofO o)))) := Same.new (Same.refl H2) nl2
    have hl2 : (upd H2 l2 (.lst (vRow (ofO o)))) l2 = some (.lst (vRow (ofO o))) := upd_same
    revert s3 hl2
    generalize upd H2 l2 (.lst (vRow (ofO o))) = H3
    intro s3 hl2
    have a3 := a2.same s3
    have hR3 := a3.hR
    have hl3 := s3 _ _ hl
    walk_at "rd"
    refine ⟨by show 5 ≤ sizeLine; decide, fun L nL => ?_⟩
    have s4 : Same H3 (upd H3 L (.lst [.non, .int 0, .ref l, .ref l2, (ofO o).m])) := Same.new (Same.refl H3) nL
    have hL : (upd H3 L (.lst [.non, .int 0, .ref l, .ref l2, (ofO o).m])) L = some (.lst [.non, .int 0, .ref l, .ref l2, .str o.m]) := upd_same
    revert s4 hL
    generalize upd H3 L (.lst [.non, .int 0, .ref l, .ref l2, (ofO o).m]) = H4
    intro s4 hL
    have a4 := a3.same s4
    have ht := s4 _ _ hl3
    have hl4 := s4 _ _ hl2
    clear a a2 a3 hR1 hR2 hR3 hl hl2 hl3 nl nl2 nL s2 s3 s4
    refine ⟨L, rfl, ⟨_, SqL.of hL⟩, ?_⟩
    refine for_it walk_list (fun i σ H' => ∃ (v3 v4 v5 v6 v7 v8 : Option V), σ = [some (.ref b), some (.ref R), some (.ref p), v3, v4, v5, v6, v7, v8] ∧ H' = H4) ⟨_, _, _, _, _, _, rfl, rfl⟩ (fun _ _ _ _ ⟨_, _, _, _, _, _, _, e⟩ => SqL.of (by rw [e]; exact hL)) ?_ ?_
    · rintro i x σ H5 H6 hi ⟨v3, v4, v5, v6, v7, v8, rfl, rfl⟩ ⟨rfl, hx⟩
      have m := List.mem_of_getElem? hx
      simp only [List.mem_cons, List.not_mem_nil, or_false] at m
      walk_at "rd"
      rcases m with rfl | rfl | rfl | rfl | rfl
      · refine eqO_val T (by simp) (.base .non) a4.hp ?_
        walk_at "rd"
        exact ⟨_, _, _, _, _, _, rfl, rfl⟩
      · refine eqO_val T (by simp) (.base (.int 0)) a4.hp ?_
        walk_at "rd"
        exact ⟨_, _, _, _, _, _, rfl, rfl⟩
      · refine eqO_val T (by simp) (.base (.tup ht)) a4.hp ?_
        walk_at "rd"
        exact ⟨_, _, _, _, _, _, rfl, rfl⟩
      · refine eqO_val T (by simp) (.base (.lst hl4)) a4.hp ?_
        walk_at "rd"
        exact ⟨_, _, _, _, _, _, rfl, rfl⟩
      · refine eqO_val T (by simp) (.base (.str o.m)) a4.hp ?_
        walk_at "rd"
        exact ⟨_, _, _, _, _, _, rfl, rfl⟩
    rintro σ H5 ⟨v3, v4, v5, v6, v7, v8, rfl, rfl⟩
    clear hL ht hl4
    have hR5 := a4.hR
    walk_at "rd"
    refine ⟨b, _, rfl, a4.e.1, by decide, by decide, fun r H6 r0 r1 e6 => ?_⟩
    have r2 : r < 1000000 := r1
    have a6 := a4.ext e6
    clear a4 hR5
    walk_at "rd"
    refine ⟨by show 4 ≤ sizeLine; decide, fun L nL => ?_⟩
    have s7 : Same H6 (upd H6 L (.lst [.int 1, .int (10 ^ (6 : Int).toNat), (ofO o).c, .int (1 + r)])) := Same.new (Same.refl H6) nL
    have hL : (upd H6 L (.lst [.int 1, .int (10 ^ (6 : Int).toNat), (ofO o).c, .int (1 + r)])) L = some (.lst [.int 1, .int (10 ^ (6 : Int).toNat), .int o.c, .int (1 + r)]) := upd_same
    revert s7 hL
    generalize upd H6 L (.lst [.int 1, .int (10 ^ (6 : Int).toNat), (ofO o).c, .int (1 + r)]) = H7
    intro s7 hL
    have a7 := a6.same s7
    clear a6 nL s7
    refine ⟨L, rfl, ⟨_, SqL.of hL⟩, ?_⟩
    refine for_it walk_list (fun i σ H' => ∃ (v3 v4 v5 v6 v7 v8 : Option V), σ = [some (.ref b), some (.ref R), some (.ref p), v3, v4, v5, v6, v7, v8] ∧ Ask b p dx R C o H H' ∧ H' L = some (.lst [.int 1, .int (10 ^ (6 : Int).toNat), .int o.c, .int (1 + r)])) ⟨_, _, _, _, _, _, rfl, a7, hL⟩ (fun _ _ _ _ ⟨_, _, _, _, _, _, _, _, e⟩ => SqL.of e) ?_ ?_
    · clear a7 hL
      rintro i x σ H1 H2 hi ⟨v3, v4, v5, v6, v7, v8, rfl, a, hL⟩ ⟨rfl, hx⟩
      obtain ⟨z, rfl, z0, z1⟩ : ∃ z : Int, x = .int z ∧ 1 ≤ z ∧ z ≤ 1000000 := by
        have m := List.mem_of_getElem? hx
        simp only [List.mem_cons, List.not_mem_nil, or_false] at m
        rcases m with rfl | rfl | rfl | rfl
        · exact ⟨_, rfl, by decide, by decide⟩
        · exact ⟨_, rfl, by decide, by decide⟩
        · exact ⟨_, rfl, ok.c0, ok.c1⟩
        · exact ⟨_, rfl, by omega, by omega⟩
      have uo := ok_c ok z0 z1
      walk_at "rd"
      refine ⟨p, dx, ofO o, .int z, rfl, a.hp, good_args uo _, fun _ q dy H3 s3 _ hq => ?_, fun wd e => by have g := good_bad uo; rw [show bad (ofO { o with c := z }) = some wd from e] at g; cases g⟩
      have a3 := a.same s3
      have hL3 := s3 _ _ hL
      have hR3 := a3.hR
      walk_at "rd"
      refine ⟨R, _, rfl, SqL.of hR3, fun l1 n1 => ?_⟩
      walk_at "rd"
      refine ⟨by show 1 ≤ sizeLine; decide, fun l2 n2 => ?_⟩
      refine ⟨l1, l2, _, _, rfl, rfl, by rw [upd_ne (ne_of_none upd_same n2)]; exact upd_same, upd_same, by show 4 ≤ sizeLine; decide, fun l3 n3 => ?_⟩
      have s6 : Same H3 (upd (upd (upd H3 l1 (.lst (cutV (vRow (ofO o)) none (some 3)))) l2 (.lst [.int z])) l3 (.lst (cutV (vRow (ofO o)) none (some 3) ++ [.int z]))) := Same.new (Same.new (Same.new (Same.refl H3) n1) n2) n3
      have hl3 : (upd (upd (upd H3 l1 (.lst (cutV (vRow (ofO o)) none (some 3)))) l2 (.lst [.int z])) l3 (.lst (cutV (vRow (ofO o)) none (some 3) ++ [.int z]))) l3 = some (.lst [.str o.m, .str o.t, .str o.s, .int z]) := upd_same
      revert s6 hl3
      generalize (upd (upd (upd H3 l1 (.lst (cutV (vRow (ofO o)) none (some 3)))) l2 (.lst [.int z])) l3 (.lst (cutV (vRow (ofO o)) none (some 3) ++ [.int z]))) = H4
      intro s6 hl3
      have a4 := a3.same s6
      have hR4 := a4.hR
      clear n1 n2 n3 hR3
      walk_at "rd"
      refine ⟨R, _, rfl, SqL.of hR4, fun l4 n4 => ?_⟩
      refine ⟨l3, l4, _, _, rfl, rfl, by rw [upd_ne (ne_of_none hl3 n4)]; exact hl3, upd_same, by show 5 ≤ sizeLine; decide, fun l5 n5 => ?_⟩
      have s7 : Same H4 (upd (upd H4 l4 (.lst (cutV (vRow (ofO o)) (some 4) none))) l5 (.lst ([.str o.m, .str o.t, .str o.s, .int z] ++ cutV (vRow (ofO o)) (some 4) none))) := Same.new (Same.new (Same.refl H4) n4) n5
      have hl5 : (upd (upd H4 l4 (.lst (cutV (vRow (ofO o)) (some 4) none))) l5 (.lst ([.str o.m, .str o.t, .str o.s, .int z] ++ cutV (vRow (ofO o)) (some 4) none))) l5 = some (.lst (vRow (ofO { o with c := z }))) := upd_same
      revert s7 hl5
      generalize (upd (upd H4 l4 (.lst (cutV (vRow (ofO o)) (some 4) none))) l5 (.lst ([.str o.m, .str o.t, .str o.s, .int z] ++ cutV (vRow (ofO o)) (some 4) none))) = H5'
      intro s7 hl5
      have a5 := a4.same s7
      walk_at "rd"
      refine ⟨q, dy, l5, { o with c := z }, rfl, s7 _ _ (s6 _ _ hq), hl5, uo, fun H8 s8 => ?_⟩
      walk_at "rd"
      exact ⟨_, _, _, _, _, _, rfl, a5.same s8, s8 _ _ (s7 _ _ (s6 _ _ hL3))⟩
    rintro σ H1 ⟨v3, v4, v5, v6, v7, v8, rfl, a, _⟩
    clear a7 hL
    walk_at "rd"
    refine ⟨by decide, by decide, ?_⟩
    refine for_range (lo := 0) (n := 3) (fun i σ H' => ∃ (v3 v4 v5 v6 v7 v8 : Option V), σ = [some (.ref b), some (.ref R), some (.ref p), v3, v4, v5, v6, v7, v8] ∧ Ask b p dx R C o H H') ⟨_, _, _, _, _, _, rfl, a⟩ ?_ ?_
    · clear a
      rintro i σ H1 hi ⟨v3, v4, v5, v6, v7, v8, rfl, a⟩
      walk_at "rd"
      refine ⟨b, 3, _, rfl, a.e.1, by decide, by decide, fun h => absurd h (by decide), fun v H2 av wv e2 => ?_⟩
      have a2 := a.ext e2
      have bc := bad_c ok (wv.2.2.2.1 rfl)
      walk_at "rd"
      refine ⟨p, dx, ofO o, v, rfl, a2.hp, ⟨(good_args ok _).m, (good_args ok _).t, (good_args ok _).s, av, (good_args ok _).l⟩, fun e => (nomatch (show some (Str.ofString "count") = none from bc.symm.trans e)), fun wd e H3 s3 => ?_⟩
      cases (show some (Str.ofString "count") = some wd from bc.symm.trans e)
      have a3 := a2.same s3
      walk_at "rd"
      refine ite2 (fun c => absurd c (by simp)) (fun _ => ?_)
      walk_at "rd"
      refine ⟨p, dx, R, o, rfl, a3.hp, a3.hR, ok, fun H4 s4 => ?_⟩
      walk_at "rd"
      exact ⟨_, _, _, _, _, _, rfl, a3.same s4⟩
    rintro σ H1 ⟨v3, v4, v5, v6, v7, v8, rfl, a⟩
    walk_at "rd"
    exact k _ a.e
end
end KK

local macro_rules
  | `(tactic| walk_at "rd_f") => `(tactic| first | exact KK.fl_m _ | exact KK.fl_t _ | exact KK.fl_s _ | exact KK.fl_c _ | exact KK.fl_l _)
local macro_rules
  | `(tactic| walk_at "rd_n") => `(tactic| (refine KK.TxtO.na (by assumption) _ ?_; decide +kernel))
local macro_rules
  | `(tactic| walk_at "rd1") => `(tactic| with_reducible first | (apply RX.mkS; (with_unfolding_all rfl)) | (apply RX.methS; (with_unfolding_all rfl)) | apply RX.xf)
namespace KK
open PySem PySem.Spec PyProof.Rows L2
structure TxtL (K : PySem.W.Frag) (mg : Str → Option Value) (C B M : Addr) : Prop extends TxtE K mg C B M where
  b_max : mg "max" = none
  b_min : mg "min" = none
def spLaw (K : PySem.W.Frag) : Sp := fun vs H Q _ => ∃ (a : Addr) (ns : List Int), vs = [.ref a] ∧ SqL K H a (ns.map V.int) ∧ ns.length ≤ 63 ∧ ∀ H', Q (.bl true) H'
theorem same_ext {H0 H H' : Hp} {b : Addr} (s : Same H0 H) (n : H0 b = none) (e : Ext b H H') : Same H0 H' := fun c o h => e.2 c o (s c o h) (ne_of_none h n)
theorem two {α : Type} : ∀ {l : List α}, l.length = 2 → ∃ a b, l = [a, b]
  | [a, b], _ => ⟨a, b, rfl⟩
theorem ne_len {H : Hp} {p q : Addr} {xs ys : List V} (hp : H p = some (.lst xs)) (hq : H q = some (.lst ys)) (n : xs.length ≠ ys.length) : p ≠ q := by
  intro e
  subst e
  rw [hp] at hq
  cases hq
  exact n rfl
def getR (r : RV) (pl : Int) : V := if pl = 0 then r.m else if pl = 1 then r.t else if pl = 2 then r.s else if pl = 3 then r.c else r.l
def setR (r : RV) (pl : Int) (v : V) : RV := if pl = 0 then { r with m := v } else if pl = 1 then { r with t := v } else if pl = 2 then { r with s := v } else if pl = 3 then { r with c := v } else { r with l := v }
def nameOf (pl : Int) : Str := if pl = 0 then Str.ofString "member" else if pl = 1 then Str.ofString "thing" else if pl = 2 then Str.ofString "side" else if pl = 3 then Str.ofString "count" else Str.ofString "limit"
theorem five {pl : Int} (h0 : 0 ≤ pl) (h4 : pl ≤ 4) : pl = 0 ∨ pl = 1 ∨ pl = 2 ∨ pl = 3 ∨ pl = 4 := by omega
theorem set_row (r : RV) {pl : Int} (v : V) (h0 : 0 ≤ pl) (h4 : pl ≤ 4) : (vRow r).set pl.toNat v = vRow (setR r pl v) := by
  rcases five h0 h4 with e | e | e | e | e <;> subst e <;> rfl
theorem get_set (r : RV) {pl q : Int} (v : V) (h0 : 0 ≤ pl) (h4 : pl ≤ 4) (q0 : 0 ≤ q) (q4 : q ≤ 4) : getR (setR r pl v) q = if q = pl then v else getR r q := by
  rcases five h0 h4 with e | e | e | e | e <;> subst e <;> rcases five q0 q4 with e | e | e | e | e <;> subst e <;> rfl
theorem args_set {H : Hp} {r : RV} {pl : Int} {v : V} (a : Args H r) (av : Arg H v) (h0 : 0 ≤ pl) (h4 : pl ≤ 4) : Args H (setR r pl v) := by
  rcases five h0 h4 with e | e | e | e | e <;> subst e
  · exact ⟨av, a.t, a.s, a.c, a.l⟩
  · exact ⟨a.m, av, a.s, a.c, a.l⟩
  · exact ⟨a.m, a.t, av, a.c, a.l⟩
  · exact ⟨a.m, a.t, a.s, av, a.l⟩
  · exact ⟨a.m, a.t, a.s, a.c, av⟩
theorem arg_upd {H : Hp} {W : Addr} {xs ys : List V} {x : V} (a : Arg H x) (hW : H W = some (.lst xs)) (n : xs.length = 5) : Arg (upd H W (.lst ys)) x := a.keep fun p u h s => by
  by_cases e : p = W
  · subst e
    rw [hW] at h
    cases h
    rcases s with ⟨y, s⟩ | ⟨y, s⟩
    · have e2 := HO.lst.inj s
      rw [e2] at n
      exact absurd n (show ¬ 1 = 5 by decide)
    · cases s
  · rw [upd_ne e]
    exact h
theorem args_upd {H : Hp} {W : Addr} {xs ys : List V} {r : RV} (a : Args H r) (hW : H W = some (.lst xs)) (n : xs.length = 5) : Args (upd H W (.lst ys)) r := ⟨arg_upd a.m hW n, arg_upd a.t hW n, arg_upd a.s hW n, arg_upd a.c hW n, arg_upd a.l hW n⟩
/-- what has become of the right row o after the places ps were made wrong -/
def Made (o : OD) (ps : List Int) (r : RV) : Prop := ∀ q, 0 ≤ q → q ≤ 4 → (q ∈ ps → wrongAt q (getR r q)) ∧ (q ∉ ps → getR r q = getR (ofO o) q)
theorem made0 (o : OD) : Made o [] (ofO o) := fun q _ _ => ⟨fun h => (nomatch h), fun _ => rfl⟩
theorem made_step {o : OD} {ps : List Int} {r : RV} {pl : Int} {v : V} (m : Made o ps r) (h0 : 0 ≤ pl) (h4 : pl ≤ 4) (w : wrongAt pl v) : Made o (ps ++ [pl]) (setR r pl v) := fun q q0 q4 => by
  rw [get_set r v h0 h4 q0 q4]
  by_cases e : q = pl
  · subst e
    rw [if_pos rfl]
    exact ⟨fun _ => w, fun h => absurd (List.mem_append_right _ List.mem_cons_self) h⟩
  · rw [if_neg e]
    refine ⟨fun h => (m q q0 q4).1 ?_, fun h => (m q q0 q4).2 fun z => h (List.mem_append_left _ z)⟩
    rcases List.mem_append.mp h with h | h
    · exact h
    · exact absurd (by simpa using h) e
theorem made_bad {o : OD} {ps : List Int} {r : RV} {m : Int} (ok : ODok o) (h : Made o ps r) (m0 : 0 ≤ m) (m4 : m ≤ 4) (hm : m ∈ ps) (hle : ∀ y ∈ ps, m ≤ y) : bad r = some (nameOf m) := by
  have lt : ∀ q, 0 ≤ q → q < m → getR r q = getR (ofO o) q := fun q q0 ql => (h q q0 (by omega)).2 fun z => by have := hle q z; omega
  have w := (h m m0 m4).1 hm
  unfold bad
  rcases five m0 m4 with e | e | e | e | e <;> subst e
  · rw [show nmV r.m = false from w.1 rfl]
    rfl
  · rw [show nmV r.m = true from by rw [show r.m = .str o.m from lt 0 (by decide) (by decide)]; exact ok.m, show thV r.t = false from w.2.1 rfl]
    rfl
  · rw [show nmV r.m = true from by rw [show r.m = .str o.m from lt 0 (by decide) (by decide)]; exact ok.m, show thV r.t = true from by rw [show r.t = .str o.t from lt 1 (by decide) (by decide)]; exact ok.t, show sdV r.s = false from w.2.2.1 rfl]
    rfl
  · rw [show nmV r.m = true from by rw [show r.m = .str o.m from lt 0 (by decide) (by decide)]; exact ok.m, show thV r.t = true from by rw [show r.t = .str o.t from lt 1 (by decide) (by decide)]; exact ok.t,
      show sdV r.s = true from by rw [show r.s = .str o.s from lt 2 (by decide) (by decide)]; exact decide_eq_true ok.s, show whV 1 1000000 r.c = false from w.2.2.2.1 rfl]
    rfl
  · rw [show nmV r.m = true from by rw [show r.m = .str o.m from lt 0 (by decide) (by decide)]; exact ok.m, show thV r.t = true from by rw [show r.t = .str o.t from lt 1 (by decide) (by decide)]; exact ok.t,
      show sdV r.s = true from by rw [show r.s = .str o.s from lt 2 (by decide) (by decide)]; exact decide_eq_true ok.s, show whV 1 1000000 r.c = true from by rw [show r.c = .int o.c from lt 3 (by decide) (by decide)]; exact decide_eq_true ⟨ok.c0, ok.c1⟩,
      show whV (-1000000000000) 1000000000000 r.l = false from w.2.2.2.2 rfl]
    rfl
theorem has_min : ∀ {ps : List Int}, 0 < ps.length → ∃ m, m ∈ ps ∧ ∀ y ∈ ps, m ≤ y
  | [a], _ => ⟨a, List.mem_cons_self, fun y hy => by
    have : y = a := by simpa using hy
    omega⟩
  | a :: c :: r, _ => by
    obtain ⟨m, hm, hle⟩ := has_min (ps := c :: r) (Nat.zero_lt_succ _)
    by_cases e : a ≤ m
    · refine ⟨a, List.mem_cons_self, fun y hy => ?_⟩
      rcases List.mem_cons.mp hy with rfl | hy
      · omega
      · have := hle y hy; omega
    · refine ⟨m, List.mem_cons_of_mem _ hm, fun y hy => ?_⟩
      rcases List.mem_cons.mp hy with rfl | hy
      · omega
      · exact hle y hy
section
variable {P : Program} {w : World} {K : PySem.W.Frag} {mg : Str → Option Value} {base : Heap} {C B M : Addr}
abbrev s_law : Stmt := top 28
theorem sc_law : FnScope ["script", "at", "bag", "turn", "names", "row", "bad", "wrong", "place"] ["script"] (defScope s_law) := ⟨rfl, rfl, rfl, by decide +kernel, rfl, by decide +kernel, by decide +kernel⟩
theorem ok_law {f : Addr} {fd : FuncData} (F : Fun K "law" "law" s_law f fd) (T : TxtL K mg C B M) (D_bag : Def P w K mg base "_law_bag" 1 ["script", "at"] (spBag K)) (D_take : Def P w K mg base "_law_take" 1 ["bag", "many"] spTake)
    (D_names : Def P w K mg base "_law_names" 3 ["bag", "many"] spNames) (D_right : Def P w K mg base "_law_right" 3 ["bag", "names"] spRight) (D_wrong : Def P w K mg base "_law_wrong" 3 ["bag", "place", "name"] spWrong)
    (D_made : Def P w K mg base "_law_made" 6 ["row"] (spMade C)) (D_is : Def P w K mg base "_law_is" 3 ["order", "row"] (spIs C)) (D_goodone : Def P w K mg base "_law_good_one" 8 ["bag", "row"] spGood) : FnOk P w K mg base CX0 9 f fd ["script"] (spLaw K) := by
  have TO := T.toTxtO
  have hcl := T.cl_Order
  refine F.ok sc_law (fun vs H Q E h => ?_) (fun cdv A outer s H0 vs Q E hr h => ?_)
  · obtain ⟨a, ns, rfl, _⟩ := h
    rfl
  · obtain ⟨a, ns, rfl, hS, hlen, k⟩ := h
    obtain ⟨mc, rdc, ⟨u1, cv1⟩, ⟨u2, cv2⟩⟩ := T.rd
    refine ⟨_, (pss_cons (ps_if (pt_cmpR (op_neD hr.units) (pe_tup (pa_cons (ClX.pe_cval (pe_glob (v := .ref C) rfl T.c_Order rfl)) (pa_cons (ClX.pe_cval (pe_glob (v := .ref C) rfl T.c_Order rfl)) pa_nil))) (pe_tup (pa_cons pe_str (pa_cons pe_str pa_nil))) (nomark _)) (pss_one (ps_ret pe_bl)) pss_nil)
      (pss_cons (ps_for PassesOwn.never rfl (pi_range1 (by rfl) T.b_range (pa_cons (pe_callB (call_max2 rfl) (by rfl) T.b_max (by decide +kernel) (pa_cons pe_int (pa_cons (pe_callB (call_min2 rfl) (by rfl) T.b_min (by decide +kernel) (pa_cons pe_int (pa_cons (pe_callB call_len_seq (by rfl) T.b_len (by decide +kernel) (pa_cons (pv 0) pa_nil)) pa_nil))) pa_nil))) pa_nil)) (pg_name (i := 1) sc_law.nd rfl (.inl rfl))
      (pss_cons (ps_set (i := 2) sc_law.nd rfl (.inl rfl) (pe_call D_bag.ok (hr.mono (by decide)) (by rfl) D_bag.mg D_bag.kp D_bag.b .nil pass0 (pa_cons (pv 0) (pa_cons (pv 1) pa_nil))))
      (pss_one (ps_for PassesOwn.never rfl (pi_range1 (by rfl) T.b_range (pa_cons pe_int pa_nil)) (pg_name (i := 3) sc_law.nd rfl (.inl rfl))
      (pss_cons (ps_set (i := 4) sc_law.nd rfl (.inl rfl) (pe_call D_names.ok (hr.mono (by decide)) (by rfl) D_names.mg D_names.kp D_names.b .nil pass0 (pa_cons (pv 2) (pa_cons pe_int pa_nil))))
      (pss_cons (ps_set (i := 5) sc_law.nd rfl (.inl rfl) (pe_call D_right.ok (hr.mono (by decide)) (by rfl) D_right.mg D_right.kp D_right.b .nil pass0 (pa_cons (pv 2) (pa_cons (pv 4) pa_nil))))
      (pss_cons (ps_if (pt_not (pt_val (pe_call D_goodone.ok (hr.mono (by decide)) (by rfl) D_goodone.mg D_goodone.kp D_goodone.b .nil pass0 (pa_cons (pv 2) (pa_cons (pv 5) pa_nil))))) (pss_one (ps_ret pe_bl)) pss_nil)
      (pss_cons (ps_set (i := 6) sc_law.nd rfl (.inl rfl) (pe_lst (pa_cons (pe_call D_take.ok (hr.mono (by decide)) (by rfl) D_take.mg D_take.kp D_take.b .nil pass0 (pa_cons (pv 2) (pa_cons pe_int pa_nil))) pa_nil)))
      (C8.pss_cut (ps_if (pt_cmpR op_eq (pe_call D_take.ok (hr.mono (by decide)) (by rfl) D_take.mg D_take.kp D_take.b .nil pass0 (pa_cons (pv 2) (pa_cons pe_int pa_nil))) pe_int (nomark _)) (pss_one (ps_expr (pe_bm PySem.F.plainAttrs_list PySem.F.slot_list_append PySem.F.type_list_append mt_append (pv 6) (pa_cons (pe_call D_take.ok (hr.mono (by decide)) (by rfl) D_take.mg D_take.kp D_take.b .nil pass0 (pa_cons (pv 2) (pa_cons pe_int pa_nil))) pa_nil)))) pss_nil)
      (pss_cons (ps_set (i := 7) sc_law.nd rfl (.inl rfl) (pe_callTy call_list_of (by rfl) T.b_list (by decide +kernel) (pa_cons (pv 5) pa_nil)))
      (pss_cons (ps_for PassesOwn.never rfl (pi_list (pv 6)) (pg_name (i := 8) sc_law.nd rfl (.inl rfl))
      (pss_one (ps_asg (pe_call D_wrong.ok (hr.mono (by decide)) (by rfl) D_wrong.mg D_wrong.kp D_wrong.b .nil pass0 (pa_cons (pv 2) (pa_cons (pv 8) (pa_cons (pe_ix ix_list (pv 4) pe_int (fun _ _ => rfl)) pa_nil)))) (pg_sub (pv 7) (pv 8) set_list))))
      (pss_cons (ps_if (pt_cmpR op_ne (pe_call D_made.ok (hr.mono (by decide)) (by rfl) D_made.mg D_made.kp D_made.b .nil pass0 (pa_cons (pv 7) pa_nil)) (pe_ix ix_list (pe_lst (pa_cons pe_str (pa_cons pe_str (pa_cons pe_str (pa_cons pe_str (pa_cons pe_str pa_nil)))))) (pe_callB (cr_min rfl) (by rfl) T.b_min (by decide +kernel) (pa_cons (pv 6) pa_nil)) (fun _ _ => rfl)) (nomark _)) (pss_one (ps_ret pe_bl)) pss_nil)
      (pss_one (ps_if (pt_not (pt_val (pe_call D_is.ok (hr.mono (by decide)) (by rfl) D_is.mg D_is.kp D_is.b .nil pass0 (pa_cons (pe_call D_made.ok (hr.mono (by decide)) (by rfl) D_made.mg D_made.kp D_made.b .nil pass0 (pa_cons (pv 5) pa_nil)) (pa_cons (pv 5) pa_nil))))) (pss_one (ps_ret pe_bl)) pss_nil))))))))))))))
      (pss_one (ps_ret pe_bl)))), ?_⟩
    walk_at "rd"
    refine ⟨C, mc, _, u1, rfl, rdc, cv1, ?_⟩
    walk_at "rd"
    refine ⟨C, mc, _, u2, rfl, rdc, cv2, ?_⟩
    walk_at "rd"
    refine ⟨by show 2 ≤ sizeLine; decide, fun t1 n1 => ?_⟩
    walk_at "rd"
    refine ⟨by show 2 ≤ sizeLine; decide, fun t2 n2 => ?_⟩
    refine ⟨.tuple [.str (Str.ofString "buy"), .str (Str.ofString "sell")], .tuple [.str (Str.ofString "buy"), .str (Str.ofString "sell")], .tup (SqT.of (by rw [upd_ne (ne_of_none upd_same n2)]; exact upd_same)) (.cons (.str _) (.cons (.str _) .nil)), .tup (SqT.of upd_same) (.cons (.str _) (.cons (.str _) .nil)), by decide +kernel, by decide +kernel, ?_⟩
    rw [SeqAt.eqv_refl _ (by decide +kernel)]
    have s0 : Same H0 (upd (upd H0 t1 (.tup [.str "buy", .str "sell"])) t2 (.tup [.str "buy", .str "sell"])) := Same.new (Same.new (Same.refl H0) n1) n2
    revert s0
    generalize upd (upd H0 t1 (.tup [.str "buy", .str "sell"])) t2 (.tup [.str "buy", .str "sell"]) = Hs
    intro s0
    have hSs := s0.seq hS
    walk_at "rd"
    refine ⟨_, _, rfl, ?_⟩
    walk_at "rd"
    refine ⟨_, _, rfl, ?_⟩
    walk_at "rd"
    rw [List.length_map]
    have hz : 1 ≤ (if (if (ns.length : Int) < 4 then (ns.length : Int) else 4) > 1 then (if (ns.length : Int) < 4 then (ns.length : Int) else 4) else 1) ∧ (if (if (ns.length : Int) < 4 then (ns.length : Int) else 4) > 1 then (if (ns.length : Int) < 4 then (ns.length : Int) else 4) else 1) ≤ 4 := by
      split <;> split <;> omega
    revert hz
    generalize (if (if (ns.length : Int) < 4 then (ns.length : Int) else 4) > 1 then (if (ns.length : Int) < 4 then (ns.length : Int) else 4) else 1) = z
    intro hz
    refine ⟨by omega, by omega, ?_⟩
    refine for_range (lo := 0) (n := z.toNat) (fun i σ H => ∃ x1 x2 x3 x4 x5 x6 x7 x8, σ = [some (.ref a), x1, x2, x3, x4, x5, x6, x7, x8] ∧ Same Hs H)
      ⟨_, _, _, _, _, _, _, _, rfl, Same.refl Hs⟩ ?_ ?_
    · rintro i σ H hi ⟨x1, x2, x3, x4, x5, x6, x7, x8, rfl, sm⟩
      walk_at "rd"
      refine ⟨a, ns, i, congrArg (fun z => [V.ref a, V.int z]) (Int.zero_add _), sm.seq hSs, hlen, fun b H1 fb bag1 s1 => ?_⟩
      have sm1 := sm.trans s1
      have b0 : Hs b = none := sm.free fb
      walk_at "rd"
      refine ⟨by decide, by decide, ?_⟩
      refine for_range (lo := 0) (n := 6) (fun j σ H => ∃ (x3 x4 x5 x6 x7 x8 : Option V), σ = [some (.ref a), some (.int (0 + i)), some (.ref b), x3, x4, x5, x6, x7, x8] ∧ Same Hs H ∧ Bag H b)
        ⟨_, _, _, _, _, _, rfl, sm1, bag1⟩ ?_ ?_
      · clear sm1 s1 bag1 fb H1 sm x1 x2 x3 x4 x5 x6 x7 x8
        rintro j σ H hj ⟨x3, x4, x5, x6, x7, x8, rfl, sm, bag⟩
        walk_at "rd"
        refine ⟨b, 2, rfl, bag, by decide, fun N xs H1 lx okx _ _ nN hN e1 => ?_⟩
        obtain ⟨n0, n1, rfl⟩ := two lx
        have k0 : NameOk n0 := okx _ List.mem_cons_self
        have k1 : NameOk n1 := okx _ (List.mem_cons_of_mem _ List.mem_cons_self)
        walk_at "rd"
        refine ⟨b, N, n0, n1, rfl, e1.1, hN, nN, k0, k1, fun R o H2 ok _ nR hR e2 => ?_⟩
        walk_at "rd"
        refine ⟨b, R, o, rfl, e2.1, hR, nR, ok, fun H3 e3 => ?_⟩
        walk_at "rd"
        refine ⟨b, 5, rfl, e3.1, by decide, by decide, fun p1 H4 l1 u1 e4 => ?_⟩
        walk_at "rd"
        refine ⟨by show 1 ≤ sizeLine; decide, fun D nD => ?_⟩
        have nDb : D ≠ b := ne_bag e4.1 nD
        have e5 : Ext b H4 (upd H4 D (.lst [.int p1])) := ext_new e4.1 nD
        have hD : (upd H4 D (.lst [.int p1])) D = some (.lst [.int p1]) := upd_same
        have e04 := ((e1.trans e2).trans e3).trans e4
        have hN4 := ((e2.trans e3).trans e4).2 _ _ hN nN
        have hR4 := (e3.trans e4).2 _ _ hR nR
        revert hD e5
        generalize upd H4 D (.lst [.int p1]) = H5
        intro e5 hD
        have ok' := good_bad ok
        have no : ∀ {wd : Str} {P : Prop}, bad (ofO o) = some wd → P := fun e => by rw [ok'] at e; cases e
        clear e4 e3 e2 e1 hN hR lx okx
        walk_at "rd"
        refine ⟨fun σ' H' => ∃ (ps : List Int) (x7 x8 : Option V), σ' = [some (.ref a), some (.int (0 + i)), some (.ref b), some (.int (0 + j)), some (.ref N), some (.ref R), some (.ref D), x7, x8] ∧ H' D = some (.lst (ps.map V.int)) ∧ 0 < ps.length ∧ ps.length ≤ 2 ∧ (∀ y ∈ ps, 0 ≤ y ∧ y ≤ 4) ∧ Ext b H4 H', ?_, ?_⟩
        · walk_at "rd"
          refine ⟨b, 3, rfl, e5.1, by decide, by decide, fun q H6 _ _ e7 => ?_⟩
          have hD6 := e7.2 _ _ hD nDb
          walk_at "rd"
          refine ite2 (fun c => ?_) (fun c => ?_)
          · walk_at "rd"
            refine ⟨b, 5, rfl, e7.1, by decide, by decide, fun p2 H7 l2 u2 e8 => ?_⟩
            have hD7 := e8.2 _ _ hD6 nDb
            walk_at "rd"
            refine RD.append hD7 (by show 1 < sizeLine; decide) ?_
            walk_at "rd"
            exact ⟨[p1, p2], _, _, rfl, upd_same, by show 0 < 2; decide, by show 2 ≤ 2; decide, fun y hy => by
              simp only [List.mem_cons, List.not_mem_nil, or_false] at hy
              rcases hy with e | e <;> subst e
              · exact ⟨l1, by omega⟩
              · exact ⟨l2, by omega⟩, ext_set ((e5.trans e7).trans e8) nDb nD⟩
          · walk_at "rd"
            exact ⟨[p1], _, _, rfl, hD6, by show 0 < 1; decide, by show 1 ≤ 2; decide, fun y hy => by
              have : y = p1 := by simpa using hy
              subst this
              exact ⟨l1, by omega⟩, e5.trans e7⟩
        · rintro σ' H6 ⟨ps, x7, x8, rfl, hD6, lp, lq, hps, e7⟩
          have hN6 := e7.2 _ _ hN4 nN
          have hR6 := e7.2 _ _ hR4 nR
          have e06 := e04.trans e7
          clear e5 hD H5 nD hN4 hR4 e7 e04 l1 u1 p1
          walk_at "rd"
          refine fun W nW => ?_
          have nWb : W ≠ b := ne_bag e06.1 nW
          have e8 : Ext b H6 (upd H6 W (.lst (vRow (ofO o)))) := ext_new e06.1 nW
          have hW : (upd H6 W (.lst (vRow (ofO o)))) W = some (.lst (vRow (ofO o))) := upd_same
          revert e8 hW
          generalize upd H6 W (.lst (vRow (ofO o))) = H7
          intro e8 hW
          walk_at "rd"
          have hD7 := e8.2 _ _ hD6 nDb
          refine ⟨⟨_, SqL.of hD7⟩, ?_⟩
          refine for_it walk_list (fun i' σ H' => ∃ (r : RV) (v8 : Option V), σ = [some (.ref a), some (.int (0 + i)), some (.ref b), some (.int (0 + j)), some (.ref N), some (.ref R), some (.ref D), some (.ref W), v8] ∧ Ext b H6 H' ∧ H' W = some (.lst (vRow r)) ∧ Args H' r ∧ Made o (ps.take i') r)
            ⟨ofO o, _, rfl, e8, hW, good_args ok _, by rw [List.take_zero]; exact made0 o⟩ (fun _ _ _ _ ⟨_, _, _, e, _⟩ => SqL.of (e.2 _ _ hD6 nDb)) ?_ ?_
          · rintro i' x σ H8 H9 hi' ⟨r, v8, rfl, e9, hW9, ar, md⟩ ⟨rfl, hx⟩
            rw [List.length_map] at hi'
            have hx2 : x = .int ps[i'] := by
              rw [List.getElem?_map, List.getElem?_eq_getElem hi'] at hx
              exact (Option.some.inj hx).symm
            subst hx2
            obtain ⟨q0, q4⟩ := hps _ (List.getElem_mem hi')
            have hN9 := e9.2 _ _ hN6 nN
            walk_at "rd"
            refine ⟨b, ps[i'], n1, rfl, e9.1, q0, q4, fun _ => k1, fun v H10 av wv e10 => ?_⟩
            have hW10 := e10.2 _ _ hW9 nWb
            have ar10 := ar.ext e9.1 e10
            walk_at "rd"
            refine ⟨W, vRow r, ps[i'], ps[i'].toNat, rfl, rfl, hW10, by unfold ixN; rw [if_pos q0]; exact if_pos (show ps[i'] < ((vRow r).length : Int) by show ps[i'] < 5; omega), ?_⟩
            rw [set_row r v q0 q4]
            walk_at "rd"
            refine ⟨setR r ps[i'] v, _, rfl, ext_set (e9.trans e10) nWb nW, upd_same, args_upd (args_set ar10 av q0 q4) hW10 rfl, ?_⟩
            rw [List.take_add_one, List.getElem?_eq_getElem hi']
            exact made_step md q0 q4 wv
          · rintro σ H8 ⟨r, v8, rfl, e9, hW9, ar, md⟩
            rw [List.length_map, List.take_length] at md
            obtain ⟨m, hm, hle⟩ := has_min lp
            obtain ⟨m0, m4⟩ := hps m hm
            have bd := made_bad ok md m0 m4 hm hle
            have hD8 := e9.2 _ _ hD6 nDb
            have hR8 := e9.2 _ _ hR6 nR
            walk_at "rd"
            refine ⟨W, r, rfl, hW9, ar, fun e => (nomatch (show some (nameOf m) = none from bd.symm.trans e)), fun wd e H9 s9 => ?_⟩
            cases (show some (nameOf m) = some wd from bd.symm.trans e)
            walk_at "rd"
            refine ⟨by show 5 ≤ sizeLine; decide, fun q nq => ?_⟩
            have s10 : Same H8 (upd H9 q (.lst [.str "member", .str "thing", .str "side", .str "count", .str "limit"])) := Same.new s9 nq
            have hq : (upd H9 q (.lst [.str "member", .str "thing", .str "side", .str "count", .str "limit"])) q = some (.lst [.str "member", .str "thing", .str "side", .str "count", .str "limit"]) := upd_same
            revert s10 hq
            generalize upd H9 q (.lst [.str "member", .str "thing", .str "side", .str "count", .str "limit"]) = H10
            intro s10 hq
            have hD10 := s10 _ _ hD8
            have hR10 := s10 _ _ hR8
            walk_at "rd"
            refine ⟨D, ps, rfl, SqL.of hD10, lp, fun m' hm' hle' => ?_⟩
            obtain rfl : m' = m := Int.le_antisymm (hle' m hm) (hle m' hm')
            refine ⟨q, _, m', .str (nameOf m'), rfl, rfl, SqL.of hq, by rcases five m0 m4 with e | e | e | e | e <;> subst e <;> rfl, ?_⟩
            walk_at "rd"
            refine ite2 (fun c => absurd c (by simp)) (fun _ => ?_)
            walk_at "rd"
            refine ⟨R, ofO o, rfl, hR10, good_args ok _, fun _ p dx H11 s11 np hp => ?_, fun wd e => no e⟩
            have hR11 := s11 _ _ hR10
            walk_at "rd"
            refine ⟨p, dx, R, o, rfl, hp, hR11, ok, fun H12 s12 => ?_⟩
            have fin : Ext b H H12 := (e06.trans e9).trans (same_bag e9.1 ((s10.trans s11).trans s12))
            walk_at "rd"
            exact ⟨_, _, _, _, _, _, rfl, same_ext sm b0 fin, fin.1⟩
      · rintro σ H ⟨x3, x4, x5, x6, x7, x8, rfl, sm, bag⟩
        exact ⟨_, _, _, _, _, _, _, _, rfl, sm⟩
    · rintro σ H ⟨x1, x2, x3, x4, x5, x6, x7, x8, rfl, sm⟩
      walk_at "rd"
      exact k H
end
end KK

namespace KK
open PySem PySem.Spec PyProof.Rows L2
theorem kit_same {K : PySem.W.Frag} {a : Addr} : PySem.W.kitOne K (.ref a) (.ref a) = some true := by
  unfold PySem.W.kitOne
  simp
theorem kit_ref {K : PySem.W.Frag} {C : Addr} {n : String} {r : Bool} (ic : PySem.W.isClsIn K C = true) (ty : PySem.W.typeIn K (.ref C) = some (.type "type")) (s : PySem.W.subIn K (.type n) (.ref C) = some r) : PySem.W.kitOne K (.type n) (.ref C) = some r := by
  have ic' : (PySem.W.clsIn K C).isSome = true := ic
  unfold PySem.W.kitOne
  rw [if_neg (by simp)]
  show (if ((PySem.W.clsIn K C).isSome && PySem.W.typeIn K (.ref C) == some (.type "type")) = true then PySem.W.subIn K (.type n) (.ref C) else none) = _
  rw [if_pos (by rw [ic', ty]; simp)]
  exact s
theorem kit_val {K : PySem.W.Frag} {B : Addr} (s : PySem.W.subIn K (.ref B) (.type "ValueError") = some true) : PySem.W.kitOne K (.ref B) (.type "ValueError") = some true := by
  unfold PySem.W.kitOne
  rw [if_neg (by simp)]
  show (if PySem.W.kitMeta "ValueError" = true then PySem.W.subIn K (.ref B) (.type "ValueError") else none) = _
  rw [if_pos (by decide +kernel)]
  exact s
theorem exm_ref {K : PySem.W.Frag} {B M : Addr} {r : Bool} (ex : PySem.W.subIn K (.ref M) (.type "BaseException") = some true) (ic : PySem.W.isClsIn K M = true) (ty : PySem.W.typeIn K (.ref M) = some (.type "type")) (s : PySem.W.subIn K (.ref B) (.ref M) = some r) : PySem.W.exmOne K (.ref B) (.ref M) = some r := by
  have ic' : (PySem.W.clsIn K M).isSome = true := ic
  unfold PySem.W.exmOne
  rw [if_pos (by rw [ex]; rfl)]
  show (if ((PySem.W.clsIn K M).isSome && PySem.W.typeIn K (.ref M) == some (.type "type")) = true then PySem.W.subIn K (.ref B) (.ref M) else none) = _
  rw [if_pos (by rw [ic', ty]; simp)]
  exact s
theorem not_first {K : PySem.W.Frag} {C : Addr} {n : String} (s : PySem.W.subIn K (.type n) (.ref C) = some false) : PySem.W.notFirst K C (.type n) = true := by
  unfold PySem.W.notFirst
  rw [s]
  simp
theorem ns_ok {K : PySem.W.Frag} {N : Addr} {c : Value} {d : Option Addr} {es : Array DictEntry} {n : Nat} {sl : Array (Option Value)} (l : K.lookup N = some ⟨c, d, .dict es n, sl⟩) (q : (es.toList.all fun e => match e.key with | .str _ _ => true | _ => false) = true) : PySem.W.nsOkIn K N = true := by
  unfold PySem.W.nsOkIn
  rw [l]
  show (es.all fun e => match e.key with | .str _ _ => true | _ => false) = true
  rw [← Array.all_toList]
  exact q
theorem fn_of_ty {K : PySem.W.Frag} {f : Addr} (t : PySem.W.typeIn K (.ref f) = some (.type "function")) : ∃ of, K.lookup f = some of ∧ of.cls = .type "function" := by
  obtain ⟨o, ho, e⟩ := Option.map_eq_some_iff.mp (show (K.lookup f).map (·.cls) = some (.type "function") from t)
  exact ⟨o, ho, e⟩
theorem all_mk {l : PySem.W.OpenLaw} {w : World} {K : PySem.W.Frag} {h : Heap} {mg : Str → Option Value} {fa : Addr} (X : K.In h) (G : h.Ns mainGlobals mg) (hfa : mg "law" = some (.ref fa))
    {C f_init p_sign f_sign f_ofcount f_eq B M NC NB f_binit f_isint f_whole f_isname f_isthing f_bag f_take f_of f_names f_far f_right f_wrong f_made f_counted f_is f_unlike f_goodone f_law : Addr} {r_sign : List Value} {t_Order_BUY : Nat} {t_Order_SELL : Nat} {oc_init : Value} {od_init : Option Addr} {an_init : Option Addr} {sl_init : Array (Option Value)} {kV_init : Value} {dc_init : Value} {pm_init : Value} {cd_init : Value} {ct_init : Value} {oc_sign : Value} {od_sign : Option Addr} {an_sign : Option Addr} {sl_sign : Array (Option Value)} {kV_sign : Value} {dc_sign : Value} {pm_sign : Value} {cd_sign : Value} {ct_sign : Value} {oc_ofcount : Value} {od_ofcount : Option Addr} {an_ofcount : Option Addr} {sl_ofcount : Array (Option Value)} {kV_ofcount : Value} {dc_ofcount : Value} {pm_ofcount : Value} {cd_ofcount : Value} {ct_ofcount : Value} {oc_eq : Value} {od_eq : Option Addr} {an_eq : Option Addr} {sl_eq : Array (Option Value)} {kV_eq : Value} {dc_eq : Value} {pm_eq : Value} {cd_eq : Value} {ct_eq : Value} {nmC : Str} {qnC : Str} {bsC : List Value} {snC : List Str} {subC : List Value} {abC : Bool} {colC : Option Bool} {ddC : Option Addr} {i0C : Option Value} {i1C : Option Value} {i2C : Option Value} {i3C : Option Value} {i5C : Option Value} {nmB : Str} {qnB : Str} {bsB : List Value} {snB : List Str} {subB : List Value} {abB : Bool} {colB : Option Bool} {ddB : Option Addr} {i0B : Option Value} {i1B : Option Value} {i2B : Option Value} {i3B : Option Value} {i5B : Option Value} {bmB : List Value} {hdC : Bool} {newC : String} {clN : Value} {ddN : Option Addr} {esN : Array DictEntry} {nN : Nat} {slN : Array (Option Value)} {oc_binit : Value} {od_binit : Option Addr} {an_binit : Option Addr} {sl_binit : Array (Option Value)} {kV_binit : Value} {dc_binit : Value} {pm_binit : Value} {cd_binit : Value} {ct_binit : Value} {oc_isint : Value} {od_isint : Option Addr} {an_isint : Option Addr} {sl_isint : Array (Option Value)} {kV_isint : Value} {dc_isint : Value} {pm_isint : Value} {cd_isint : Value} {ct_isint : Value} {oc_whole : Value} {od_whole : Option Addr} {an_whole : Option Addr} {sl_whole : Array (Option Value)} {kV_whole : Value} {dc_whole : Value} {pm_whole : Value} {cd_whole : Value} {ct_whole : Value} {oc_isname : Value} {od_isname : Option Addr} {an_isname : Option Addr} {sl_isname : Array (Option Value)} {kV_isname : Value} {dc_isname : Value} {pm_isname : Value} {cd_isname : Value} {ct_isname : Value} {oc_isthing : Value} {od_isthing : Option Addr} {an_isthing : Option Addr} {sl_isthing : Array (Option Value)} {kV_isthing : Value} {dc_isthing : Value} {pm_isthing : Value} {cd_isthing : Value} {ct_isthing : Value} {oc_bag : Value} {od_bag : Option Addr} {an_bag : Option Addr} {sl_bag : Array (Option Value)} {kV_bag : Value} {dc_bag : Value} {pm_bag : Value} {cd_bag : Value} {ct_bag : Value} {oc_take : Value} {od_take : Option Addr} {an_take : Option Addr} {sl_take : Array (Option Value)} {kV_take : Value} {dc_take : Value} {pm_take : Value} {cd_take : Value} {ct_take : Value} {oc_of : Value} {od_of : Option Addr} {an_of : Option Addr} {sl_of : Array (Option Value)} {kV_of : Value} {dc_of : Value} {pm_of : Value} {cd_of : Value} {ct_of : Value} {oc_names : Value} {od_names : Option Addr} {an_names : Option Addr} {sl_names : Array (Option Value)} {kV_names : Value} {dc_names : Value} {pm_names : Value} {cd_names : Value} {ct_names : Value} {oc_far : Value} {od_far : Option Addr} {an_far : Option Addr} {sl_far : Array (Option Value)} {kV_far : Value} {dc_far : Value} {pm_far : Value} {cd_far : Value} {ct_far : Value} {oc_right : Value} {od_right : Option Addr} {an_right : Option Addr} {sl_right : Array (Option Value)} {kV_right : Value} {dc_right : Value} {pm_right : Value} {cd_right : Value} {ct_right : Value} {oc_wrong : Value} {od_wrong : Option Addr} {an_wrong : Option Addr} {sl_wrong : Array (Option Value)} {kV_wrong : Value} {dc_wrong : Value} {pm_wrong : Value} {cd_wrong : Value} {ct_wrong : Value} {oc_made : Value} {od_made : Option Addr} {an_made : Option Addr} {sl_made : Array (Option Value)} {kV_made : Value} {dc_made : Value} {pm_made : Value} {cd_made : Value} {ct_made : Value} {oc_counted : Value} {od_counted : Option Addr} {an_counted : Option Addr} {sl_counted : Array (Option Value)} {kV_counted : Value} {dc_counted : Value} {pm_counted : Value} {cd_counted : Value} {ct_counted : Value} {oc_is : Value} {od_is : Option Addr} {an_is : Option Addr} {sl_is : Array (Option Value)} {kV_is : Value} {dc_is : Value} {pm_is : Value} {cd_is : Value} {ct_is : Value} {oc_unlike : Value} {od_unlike : Option Addr} {an_unlike : Option Addr} {sl_unlike : Array (Option Value)} {kV_unlike : Value} {dc_unlike : Value} {pm_unlike : Value} {cd_unlike : Value} {ct_unlike : Value} {oc_goodone : Value} {od_goodone : Option Addr} {an_goodone : Option Addr} {sl_goodone : Array (Option Value)} {kV_goodone : Value} {dc_goodone : Value} {pm_goodone : Value} {cd_goodone : Value} {ct_goodone : Value} {oc_law : Value} {od_law : Option Addr} {an_law : Option Addr} {sl_law : Array (Option Value)} {kV_law : Value} {dc_law : Value} {pm_law : Value} {cd_law : Value} {ct_law : Value} {t_MOST : Nat} {t_MOST_COUNT : Nat} {t__CASH : Nat} {t__LETTERS : Nat} {t__LONGEST_NAME : Nat}
    (c_Order : PySem.W.nsIn K mainGlobals "Order" = some (some (.ref C)))
    (pg_Order : PySem.W.plainGet K C Str.empty = true)
    (hd_Order : PySem.W.hasDictIn K C = true)
    (po_Order : PySem.W.plainOver K C = true)
    (sa_Order : PySem.W.findIn K (.ref C) "__setattr__" = some (some (.builtin "object.__setattr__")))
    (mk_Order : PySem.W.makesIn K C = true)
    (kp_Order : PySem.W.keepIn K (.ref C) = true)
    (n_Order_member : PySem.W.findIn K (.ref C) "member" = some none)
    (n_Order_thing : PySem.W.findIn K (.ref C) "thing" = some none)
    (n_Order_side : PySem.W.findIn K (.ref C) "side" = some none)
    (n_Order_count : PySem.W.findIn K (.ref C) "count" = some none)
    (n_Order_limit : PySem.W.findIn K (.ref C) "limit" = some none)
    (rd_Order : PySem.W.readsIn K C (.type "type") = true)
    (ga_Order : PySem.W.specialIn K (.ref C) "__getattribute__" = some (some (.builtin "type.__getattribute__")))
    (v_Order_BUY : PySem.W.findCls K (.ref C) (.type "type") "BUY" = some (.val (.str "buy" t_Order_BUY)))
    (v_Order_SELL : PySem.W.findCls K (.ref C) (.type "type") "SELL" = some (.val (.str "sell" t_Order_SELL)))
    (a_init : PySem.W.findIn K (.ref C) "__init__" = some (some (.ref f_init)))
    (l_init : K.lookup f_init = some ⟨oc_init, od_init, .func (PySem.W.fnOf "__init__" "Order.__init__" (defArgs s_init) (defBody s_init) (defScope s_init) .none kV_init dc_init pm_init an_init cd_init ct_init), sl_init⟩)
    (c_init : PySem.W.codeIn K cd_init "Order.__init__" = true)
    (k_init : PySem.W.keepIn K (.ref f_init) = true)
    (i_init : PySem.W.isFn K (.ref f_init) = true)
    (pa_sign : PySem.W.findIn K (.ref C) "sign" = some (some (.ref p_sign)))
    (pt_sign : PySem.W.specialIn K (.ref p_sign) "__get__" = some (some (.builtin "property.__get__")))
    (pk_sign : PySem.W.takesIn K (.ref p_sign) = some true)
    (a_sign : PySem.W.recIn K p_sign "property" = some (.ref f_sign :: r_sign))
    (l_sign : K.lookup f_sign = some ⟨oc_sign, od_sign, .func (PySem.W.fnOf "sign" "Order.sign" (defArgs s_sign) (defBody s_sign) (defScope s_sign) .none kV_sign dc_sign pm_sign an_sign cd_sign ct_sign), sl_sign⟩)
    (c_sign : PySem.W.codeIn K cd_sign "Order.sign" = true)
    (k_sign : PySem.W.keepIn K (.ref f_sign) = true)
    (a_ofcount : PySem.W.findIn K (.ref C) "of_count" = some (some (.ref f_ofcount)))
    (l_ofcount : K.lookup f_ofcount = some ⟨oc_ofcount, od_ofcount, .func (PySem.W.fnOf "of_count" "Order.of_count" (defArgs s_ofcount) (defBody s_ofcount) (defScope s_ofcount) .none kV_ofcount dc_ofcount pm_ofcount an_ofcount cd_ofcount ct_ofcount), sl_ofcount⟩)
    (c_ofcount : PySem.W.codeIn K cd_ofcount "Order.of_count" = true)
    (k_ofcount : PySem.W.keepIn K (.ref f_ofcount) = true)
    (i_ofcount : PySem.W.isFn K (.ref f_ofcount) = true)
    (a_eq : PySem.W.findIn K (.ref C) "__eq__" = some (some (.ref f_eq)))
    (l_eq : K.lookup f_eq = some ⟨oc_eq, od_eq, .func (PySem.W.fnOf "__eq__" "Order.__eq__" (defArgs s_eq) (defBody s_eq) (defScope s_eq) .none kV_eq dc_eq pm_eq an_eq cd_eq ct_eq), sl_eq⟩)
    (c_eq : PySem.W.codeIn K cd_eq "Order.__eq__" = true)
    (k_eq : PySem.W.keepIn K (.ref f_eq) = true)
    (i_eq : PySem.W.isFn K (.ref f_eq) = true)
    (ic_C : PySem.W.isClsIn K C = true)
    (ty_C : PySem.W.typeIn K (.ref C) = some (.type "type"))
    (su_C_NoneType : PySem.W.subIn K (.type "NoneType") (.ref C) = some false)
    (su_C_int : PySem.W.subIn K (.type "int") (.ref C) = some false)
    (su_C_list : PySem.W.subIn K (.type "list") (.ref C) = some false)
    (su_C_tuple : PySem.W.subIn K (.type "tuple") (.ref C) = some false)
    (su_C_str : PySem.W.subIn K (.type "str") (.ref C) = some false)
    (ca_C : PySem.W.findIn K (.ref C) "__class__" = some (some (.builtin "object.__class__")))
    (cn_C : PySem.W.specialIn K (.builtin "object.__class__") "__get__" = some (some (.builtin "getset_descriptor.__get__")))
    (ct_C : PySem.W.takesIn K (.builtin "object.__class__") = some true)
    (cm_C : PySem.W.mroIn K C (.type "object") = some true)
    (l_C : K.lookup C = some (excClassObj nmC qnC C NC bsC [.type "object"] hdC snC subC abC colC ddC i0C i1C i2C i3C i5C newC))
    (l_NC : K.lookup NC = some ⟨clN, ddN, .dict esN nN, slN⟩)
    (q_NC : (esN.toList.all fun e => match e.key with | .str _ _ => true | _ => false) = true)
    (e_NC : PySem.W.nsIn K NC "__eq__" = some (some (.ref f_eq)))
    (m_NC : PySem.W.nsIn K NC "__ne__" = some none)
    (ty_eq : PySem.W.typeIn K (.ref f_eq) = some (.type "function"))
    (c_BadOrder : PySem.W.nsIn K mainGlobals "BadOrder" = some (some (.ref B)))
    (c_MarketError : PySem.W.nsIn K mainGlobals "MarketError" = some (some (.ref M)))
    (l_B : K.lookup B = some (excClassObj nmB qnB B NB bsB bmB true snB subB abB colB ddB i0B i1B i2B i3B i5B "ValueError.__new__"))
    (h_B : PySem.HandSPX.refsVE bmB = true)
    (sa_B : PySem.W.findIn K (.ref B) "__setattr__" = some (some (.builtin "object.__setattr__")))
    (ex_B : PySem.W.subIn K (.ref B) (.type "BaseException") = some true)
    (ty_B : PySem.W.typeIn K (.ref B) = some (.type "type"))
    (kp_B : PySem.W.keepIn K (.ref B) = true)
    (nw_B : PySem.W.findIn K (.ref B) "what" = some none)
    (ga_B : PySem.W.findIn K (.ref B) "__getattribute__" = some (some (.builtin "BaseException.__getattribute__")))
    (gg_B : PySem.W.findIn K (.ref B) "__getattr__" = some none)
    (hd_B : PySem.W.hasDictIn K B = true)
    (ca_B : PySem.W.findIn K (.ref B) "__class__" = some (some (.builtin "object.__class__")))
    (cm_B : PySem.W.mroIn K B (.type "object") = some true)
    (ic_B : PySem.W.isClsIn K B = true)
    (sv_B : PySem.W.subIn K (.ref B) (.type "ValueError") = some true)
    (sb_B : PySem.W.subIn K (.ref B) (.ref B) = some true)
    (sm_B : PySem.W.subIn K (.ref B) (.ref M) = some true)
    (ex_M : PySem.W.subIn K (.ref M) (.type "BaseException") = some true)
    (ic_M : PySem.W.isClsIn K M = true)
    (ty_M : PySem.W.typeIn K (.ref M) = some (.type "type"))
    (a_binit : PySem.W.findIn K (.ref B) "__init__" = some (some (.ref f_binit)))
    (l_binit : K.lookup f_binit = some ⟨oc_binit, od_binit, .func (PySem.W.fnOf "__init__" "BadOrder.__init__" (defArgs s_binit) (defBody s_binit) (defScope s_binit) .none kV_binit dc_binit pm_binit an_binit cd_binit ct_binit), sl_binit⟩)
    (c_binit : PySem.W.codeIn K cd_binit "BadOrder.__init__" = true)
    (k_binit : PySem.W.keepIn K (.ref f_binit) = true)
    (ty_binit : PySem.W.typeIn K (.ref f_binit) = some (.type "function"))
    (a_isint : PySem.W.nsIn K mainGlobals "is_integer" = some (some (.ref f_isint)))
    (l_isint : K.lookup f_isint = some ⟨oc_isint, od_isint, .func (PySem.W.fnOf "is_integer" "is_integer" (defArgs s_isint) (defBody s_isint) (defScope s_isint) .none kV_isint dc_isint pm_isint an_isint cd_isint ct_isint), sl_isint⟩)
    (c_isint : PySem.W.codeIn K cd_isint "is_integer" = true)
    (k_isint : PySem.W.keepIn K (.ref f_isint) = true)
    (a_whole : PySem.W.nsIn K mainGlobals "is_whole" = some (some (.ref f_whole)))
    (l_whole : K.lookup f_whole = some ⟨oc_whole, od_whole, .func (PySem.W.fnOf "is_whole" "is_whole" (defArgs s_whole) (defBody s_whole) (defScope s_whole) .none kV_whole dc_whole pm_whole an_whole cd_whole ct_whole), sl_whole⟩)
    (c_whole : PySem.W.codeIn K cd_whole "is_whole" = true)
    (k_whole : PySem.W.keepIn K (.ref f_whole) = true)
    (a_isname : PySem.W.nsIn K mainGlobals "is_name" = some (some (.ref f_isname)))
    (l_isname : K.lookup f_isname = some ⟨oc_isname, od_isname, .func (PySem.W.fnOf "is_name" "is_name" (defArgs s_isname) (defBody s_isname) (defScope s_isname) .none kV_isname dc_isname pm_isname an_isname cd_isname ct_isname), sl_isname⟩)
    (c_isname : PySem.W.codeIn K cd_isname "is_name" = true)
    (k_isname : PySem.W.keepIn K (.ref f_isname) = true)
    (a_isthing : PySem.W.nsIn K mainGlobals "is_thing_name" = some (some (.ref f_isthing)))
    (l_isthing : K.lookup f_isthing = some ⟨oc_isthing, od_isthing, .func (PySem.W.fnOf "is_thing_name" "is_thing_name" (defArgs s_isthing) (defBody s_isthing) (defScope s_isthing) .none kV_isthing dc_isthing pm_isthing an_isthing cd_isthing ct_isthing), sl_isthing⟩)
    (c_isthing : PySem.W.codeIn K cd_isthing "is_thing_name" = true)
    (k_isthing : PySem.W.keepIn K (.ref f_isthing) = true)
    (a_bag : PySem.W.nsIn K mainGlobals "_law_bag" = some (some (.ref f_bag)))
    (l_bag : K.lookup f_bag = some ⟨oc_bag, od_bag, .func (PySem.W.fnOf "_law_bag" "_law_bag" (defArgs s_bag) (defBody s_bag) (defScope s_bag) .none kV_bag dc_bag pm_bag an_bag cd_bag ct_bag), sl_bag⟩)
    (c_bag : PySem.W.codeIn K cd_bag "_law_bag" = true)
    (k_bag : PySem.W.keepIn K (.ref f_bag) = true)
    (a_take : PySem.W.nsIn K mainGlobals "_law_take" = some (some (.ref f_take)))
    (l_take : K.lookup f_take = some ⟨oc_take, od_take, .func (PySem.W.fnOf "_law_take" "_law_take" (defArgs s_take) (defBody s_take) (defScope s_take) .none kV_take dc_take pm_take an_take cd_take ct_take), sl_take⟩)
    (c_take : PySem.W.codeIn K cd_take "_law_take" = true)
    (k_take : PySem.W.keepIn K (.ref f_take) = true)
    (a_of : PySem.W.nsIn K mainGlobals "_law_of" = some (some (.ref f_of)))
    (l_of : K.lookup f_of = some ⟨oc_of, od_of, .func (PySem.W.fnOf "_law_of" "_law_of" (defArgs s_of) (defBody s_of) (defScope s_of) .none kV_of dc_of pm_of an_of cd_of ct_of), sl_of⟩)
    (c_of : PySem.W.codeIn K cd_of "_law_of" = true)
    (k_of : PySem.W.keepIn K (.ref f_of) = true)
    (a_names : PySem.W.nsIn K mainGlobals "_law_names" = some (some (.ref f_names)))
    (l_names : K.lookup f_names = some ⟨oc_names, od_names, .func (PySem.W.fnOf "_law_names" "_law_names" (defArgs s_names) (defBody s_names) (defScope s_names) .none kV_names dc_names pm_names an_names cd_names ct_names), sl_names⟩)
    (c_names : PySem.W.codeIn K cd_names "_law_names" = true)
    (k_names : PySem.W.keepIn K (.ref f_names) = true)
    (a_far : PySem.W.nsIn K mainGlobals "_law_far" = some (some (.ref f_far)))
    (l_far : K.lookup f_far = some ⟨oc_far, od_far, .func (PySem.W.fnOf "_law_far" "_law_far" (defArgs s_far) (defBody s_far) (defScope s_far) .none kV_far dc_far pm_far an_far cd_far ct_far), sl_far⟩)
    (c_far : PySem.W.codeIn K cd_far "_law_far" = true)
    (k_far : PySem.W.keepIn K (.ref f_far) = true)
    (a_right : PySem.W.nsIn K mainGlobals "_law_right" = some (some (.ref f_right)))
    (l_right : K.lookup f_right = some ⟨oc_right, od_right, .func (PySem.W.fnOf "_law_right" "_law_right" (defArgs s_right) (defBody s_right) (defScope s_right) .none kV_right dc_right pm_right an_right cd_right ct_right), sl_right⟩)
    (c_right : PySem.W.codeIn K cd_right "_law_right" = true)
    (k_right : PySem.W.keepIn K (.ref f_right) = true)
    (a_wrong : PySem.W.nsIn K mainGlobals "_law_wrong" = some (some (.ref f_wrong)))
    (l_wrong : K.lookup f_wrong = some ⟨oc_wrong, od_wrong, .func (PySem.W.fnOf "_law_wrong" "_law_wrong" (defArgs s_wrong) (defBody s_wrong) (defScope s_wrong) .none kV_wrong dc_wrong pm_wrong an_wrong cd_wrong ct_wrong), sl_wrong⟩)
    (c_wrong : PySem.W.codeIn K cd_wrong "_law_wrong" = true)
    (k_wrong : PySem.W.keepIn K (.ref f_wrong) = true)
    (a_made : PySem.W.nsIn K mainGlobals "_law_made" = some (some (.ref f_made)))
    (l_made : K.lookup f_made = some ⟨oc_made, od_made, .func (PySem.W.fnOf "_law_made" "_law_made" (defArgs s_made) (defBody s_made) (defScope s_made) .none kV_made dc_made pm_made an_made cd_made ct_made), sl_made⟩)
    (c_made : PySem.W.codeIn K cd_made "_law_made" = true)
    (k_made : PySem.W.keepIn K (.ref f_made) = true)
    (a_counted : PySem.W.nsIn K mainGlobals "_law_counted" = some (some (.ref f_counted)))
    (l_counted : K.lookup f_counted = some ⟨oc_counted, od_counted, .func (PySem.W.fnOf "_law_counted" "_law_counted" (defArgs s_counted) (defBody s_counted) (defScope s_counted) .none kV_counted dc_counted pm_counted an_counted cd_counted ct_counted), sl_counted⟩)
    (c_counted : PySem.W.codeIn K cd_counted "_law_counted" = true)
    (k_counted : PySem.W.keepIn K (.ref f_counted) = true)
    (a_is : PySem.W.nsIn K mainGlobals "_law_is" = some (some (.ref f_is)))
    (l_is : K.lookup f_is = some ⟨oc_is, od_is, .func (PySem.W.fnOf "_law_is" "_law_is" (defArgs s_is) (defBody s_is) (defScope s_is) .none kV_is dc_is pm_is an_is cd_is ct_is), sl_is⟩)
    (c_is : PySem.W.codeIn K cd_is "_law_is" = true)
    (k_is : PySem.W.keepIn K (.ref f_is) = true)
    (a_unlike : PySem.W.nsIn K mainGlobals "_law_unlike" = some (some (.ref f_unlike)))
    (l_unlike : K.lookup f_unlike = some ⟨oc_unlike, od_unlike, .func (PySem.W.fnOf "_law_unlike" "_law_unlike" (defArgs s_unlike) (defBody s_unlike) (defScope s_unlike) .none kV_unlike dc_unlike pm_unlike an_unlike cd_unlike ct_unlike), sl_unlike⟩)
    (c_unlike : PySem.W.codeIn K cd_unlike "_law_unlike" = true)
    (k_unlike : PySem.W.keepIn K (.ref f_unlike) = true)
    (a_goodone : PySem.W.nsIn K mainGlobals "_law_good_one" = some (some (.ref f_goodone)))
    (l_goodone : K.lookup f_goodone = some ⟨oc_goodone, od_goodone, .func (PySem.W.fnOf "_law_good_one" "_law_good_one" (defArgs s_goodone) (defBody s_goodone) (defScope s_goodone) .none kV_goodone dc_goodone pm_goodone an_goodone cd_goodone ct_goodone), sl_goodone⟩)
    (c_goodone : PySem.W.codeIn K cd_goodone "_law_good_one" = true)
    (k_goodone : PySem.W.keepIn K (.ref f_goodone) = true)
    (a_law : PySem.W.nsIn K mainGlobals "law" = some (some (.ref f_law)))
    (l_law : K.lookup f_law = some ⟨oc_law, od_law, .func (PySem.W.fnOf "law" "law" (defArgs s_law) (defBody s_law) (defScope s_law) .none kV_law dc_law pm_law an_law cd_law ct_law), sl_law⟩)
    (c_law : PySem.W.codeIn K cd_law "law" = true)
    (k_law : PySem.W.keepIn K (.ref f_law) = true)
    (g_MOST : PySem.W.nsIn K mainGlobals "MOST" = some (some (.int 1000000000000 t_MOST)))
    (g_MOST_COUNT : PySem.W.nsIn K mainGlobals "MOST_COUNT" = some (some (.int 1000000 t_MOST_COUNT)))
    (g__CASH : PySem.W.nsIn K mainGlobals "_CASH" = some (some (.str "cash" t__CASH)))
    (g__LETTERS : PySem.W.nsIn K mainGlobals "_LETTERS" = some (some (.str "abcdefghijklmnopqrstuvwxyz" t__LETTERS)))
    (g__LONGEST_NAME : PySem.W.nsIn K mainGlobals "_LONGEST_NAME" = some (some (.int 12 t__LONGEST_NAME)))
    (z_int : PySem.W.nsIn K mainGlobals "int" = some none)
    (z_bool : PySem.W.nsIn K mainGlobals "bool" = some none)
    (z_str : PySem.W.nsIn K mainGlobals "str" = some none)
    (z_len : PySem.W.nsIn K mainGlobals "len" = some none)
    (z_all : PySem.W.nsIn K mainGlobals "all" = some none)
    (z_isinstance : PySem.W.nsIn K mainGlobals "isinstance" = some none)
    (z_abs : PySem.W.nsIn K mainGlobals "abs" = some none)
    (z_range : PySem.W.nsIn K mainGlobals "range" = some none)
    (z_list : PySem.W.nsIn K mainGlobals "list" = some none)
    (z_tuple : PySem.W.nsIn K mainGlobals "tuple" = some none)
    (z_enumerate : PySem.W.nsIn K mainGlobals "enumerate" = some none)
    (z_max : PySem.W.nsIn K mainGlobals "max" = some none)
    (z_min : PySem.W.nsIn K mainGlobals "min" = some none)
    (z_ValueError : PySem.W.nsIn K mainGlobals "ValueError" = some none)
    : ∃ fd : FuncData, (∀ (s : Shared) (v : Value), BindsTo s fd ⟨[v], []⟩ [("script", v)]) ∧ ∀ base : Heap, K.In base → base.Ns mainGlobals mg → FnOk l.prog w K mg base CX0 9 fa fd ["script"] (spLaw K) := by
  have e := hfa.symm.trans (PySem.W.mg_of X G a_law)
  cases e
  have F_init := fun_mk (st := s_init) l_init c_init k_init
  have F_sign := fun_mk (st := s_sign) l_sign c_sign k_sign
  have F_ofcount := fun_mk (st := s_ofcount) l_ofcount c_ofcount k_ofcount
  have F_eq := fun_mk (st := s_eq) l_eq c_eq k_eq
  have F_binit := fun_mk (st := s_binit) l_binit c_binit k_binit
  have F_isint := fun_mk (st := s_isint) l_isint c_isint k_isint
  have F_whole := fun_mk (st := s_whole) l_whole c_whole k_whole
  have F_isname := fun_mk (st := s_isname) l_isname c_isname k_isname
  have F_isthing := fun_mk (st := s_isthing) l_isthing c_isthing k_isthing
  have F_bag := fun_mk (st := s_bag) l_bag c_bag k_bag
  have F_take := fun_mk (st := s_take) l_take c_take k_take
  have F_of := fun_mk (st := s_of) l_of c_of k_of
  have F_names := fun_mk (st := s_names) l_names c_names k_names
  have F_far := fun_mk (st := s_far) l_far c_far k_far
  have F_right := fun_mk (st := s_right) l_right c_right k_right
  have F_wrong := fun_mk (st := s_wrong) l_wrong c_wrong k_wrong
  have F_made := fun_mk (st := s_made) l_made c_made k_made
  have F_counted := fun_mk (st := s_counted) l_counted c_counted k_counted
  have F_is := fun_mk (st := s_is) l_is c_is k_is
  have F_unlike := fun_mk (st := s_unlike) l_unlike c_unlike k_unlike
  have F_goodone := fun_mk (st := s_goodone) l_goodone c_goodone k_goodone
  have F_law := fun_mk (st := s_law) l_law c_law k_law
  have b_take := F_take.binds (ps := ["bag", "many"]) fun _ _ _ _ _ _ us hl => match us, hl with | [_, _], _ => rfl
  have b_of := F_of.binds (ps := ["bag", "some"]) fun _ _ _ _ _ _ us hl => match us, hl with | [_, _], _ => rfl
  have b_names := F_names.binds (ps := ["bag", "many"]) fun _ _ _ _ _ _ us hl => match us, hl with | [_, _], _ => rfl
  have b_far := F_far.binds (ps := ["bag", "most"]) fun _ _ _ _ _ _ us hl => match us, hl with | [_, _], _ => rfl
  have b_bag := F_bag.binds (ps := ["script", "at"]) fun _ _ _ _ _ _ us hl => match us, hl with | [_, _], _ => rfl
  have b_right := F_right.binds (ps := ["bag", "names"]) fun _ _ _ _ _ _ us hl => match us, hl with | [_, _], _ => rfl
  have b_wrong := F_wrong.binds (ps := ["bag", "place", "name"]) fun _ _ _ _ _ _ us hl => match us, hl with | [_, _, _], _ => rfl
  have b_made := F_made.binds (ps := ["row"]) fun _ _ _ _ _ _ us hl => match us, hl with | [_], _ => rfl
  have b_counted := F_counted.binds (ps := ["order", "count"]) fun _ _ _ _ _ _ us hl => match us, hl with | [_, _], _ => rfl
  have b_is := F_is.binds (ps := ["order", "row"]) fun _ _ _ _ _ _ us hl => match us, hl with | [_, _], _ => rfl
  have b_unlike := F_unlike.binds (ps := ["row", "place"]) fun _ _ _ _ _ _ us hl => match us, hl with | [_, _], _ => rfl
  have b_goodone := F_goodone.binds (ps := ["bag", "row"]) fun _ _ _ _ _ _ us hl => match us, hl with | [_, _], _ => rfl
  have b_isname := F_isname.binds (ps := ["thing"]) fun _ _ _ _ _ _ us hl => match us, hl with | [_], _ => rfl
  have b_isthing := F_isthing.binds (ps := ["thing"]) fun _ _ _ _ _ _ us hl => match us, hl with | [_], _ => rfl
  have b_isint := F_isint.binds (ps := ["thing"]) fun _ _ _ _ _ _ us hl => match us, hl with | [_], _ => rfl
  have b_whole := F_whole.binds (ps := ["thing", "low", "high"]) fun _ _ _ _ _ _ us hl => match us, hl with | [_, _, _], _ => rfl
  have b_init := F_init.binds (ps := ["self", "member", "thing", "side", "count", "limit"]) fun _ _ _ _ _ _ us hl => match us, hl with | [_, _, _, _, _, _], _ => rfl
  have b_sign := F_sign.binds (ps := ["self"]) fun _ _ _ _ _ _ us hl => match us, hl with | [_], _ => rfl
  have b_ofcount := F_ofcount.binds (ps := ["self", "count"]) fun _ _ _ _ _ _ us hl => match us, hl with | [_, _], _ => rfl
  have b_eq := F_eq.binds (ps := ["self", "other"]) fun _ _ _ _ _ _ us hl => match us, hl with | [_, _], _ => rfl
  have b_binit := F_binit.binds (ps := ["self", "what"]) fun _ _ _ _ _ _ us hl => match us, hl with | [_, _], _ => rfl
  have b_law := F_law.binds (ps := ["script"]) fun _ _ _ _ _ _ us hl => match us, hl with | [_], _ => rfl
  have g : ∀ {x : Str} {v : Value}, PySem.W.nsIn K mainGlobals x = some (some v) → mg x = some v := fun a => PySem.W.mg_of X G a
  have z : ∀ {x : Str}, PySem.W.nsIn K mainGlobals x = some none → mg x = none := fun a => PySem.W.mg_none_of X G a
  have TB : TxtB mg := ⟨z z_int, z z_abs, z z_len, z z_range, z z_list, z z_enumerate⟩
  have oB : OexC K B := ⟨⟨_, _, _, _, _, _, _, _, _, _, _, _, _, _, _, l_B, h_B⟩, sa_B, ex_B, ty_B, kp_B⟩
  have kt : ∀ n ∈ (["NoneType", "int", "list", "tuple", "str"] : List String), PySem.W.subIn K (.type n) (.ref C) = some false := fun n hn => by
    simp only [List.mem_cons, List.not_mem_nil, or_false] at hn
    rcases hn with rfl | rfl | rfl | rfl | rfl
    · exact su_C_NoneType
    · exact su_C_int
    · exact su_C_list
    · exact su_C_tuple
    · exact su_C_str
  have na : ∀ f ∈ (["member", "thing", "side", "count", "limit"] : List Str), NoAttr K C f := fun f hf => by
    simp only [List.mem_cons, List.not_mem_nil, or_false] at hf
    rcases hf with rfl | rfl | rfl | rfl | rfl
    · exact n_Order_member
    · exact n_Order_thing
    · exact n_Order_side
    · exact n_Order_count
    · exact n_Order_limit
  have TO : TxtO K mg C B := { b_int := z z_int, b_bool := z z_bool, b_str := z z_str, b_len := z z_len, b_all := z z_all, b_isinstance := z z_isinstance, k_MOST := ⟨_, g g_MOST⟩, k_MOST_COUNT := ⟨_, g g_MOST_COUNT⟩, k__CASH := ⟨_, g g__CASH⟩, k__LETTERS := ⟨_, g g__LETTERS⟩, k__LONGEST_NAME := ⟨_, g g__LONGEST_NAME⟩, c_Order := g c_Order, c_BadOrder := g c_BadOrder, cl_Order := ⟨pg_Order, hd_Order, po_Order, sa_Order⟩, na := na, rd := ⟨_, ⟨rd_Order, ga_Order⟩, ⟨_, v_Order_BUY, ⟨_, rfl⟩⟩, ⟨_, v_Order_SELL, ⟨_, rfl⟩⟩⟩, oex := oB, nwhat := nw_B, isi := ⟨ca_C, cn_C, ct_C, cm_C⟩, ko := kit_same, kt := fun n hn => kit_ref ic_C ty_C (kt n hn) }
  have TE : TxtE K mg C B M := { TO with c_MarketError := g c_MarketError, b_ValueError := z z_ValueError, b_tuple := z z_tuple, b_list := z z_list, b_range := z z_range, nf := fun n hn => not_first (kt n hn), em := exm_ref ex_M ic_M ty_M sm_B, eb := exm_ref ex_B ic_B ty_B sb_B, ec := ⟨ga_B, gg_B, ex_B, hd_B, ca_B, cn_C, ct_C, cm_B⟩, xfB := ⟨ga_B, gg_B, ex_B, hd_B⟩, kBB := kit_same, kBV := kit_val sv_B }
  have TL : TxtL K mg C B M := { TE with b_max := z z_max, b_min := z z_min }
  have ne : RX.NeC K C f_eq := ⟨⟨_, _, _, _, _, _, _, _, _, _, _, _, _, _, _, _, l_C, ns_ok l_NC q_NC, e_NC, m_NC⟩, fn_of_ty ty_eq⟩
  refine ⟨PySem.W.fnOf "law" "law" (defArgs s_law) (defBody s_law) (defScope s_law) .none kV_law dc_law pm_law an_law cd_law ct_law, fun s v => .of_eq rfl, fun base Kb Gb => ?_⟩
  let D_take : Def l.prog w K mg base "_law_take" 1 ["bag", "many"] spTake := ⟨_, _, ok_take F_take TB, g a_take, k_take, b_take⟩
  let D_of : Def l.prog w K mg base "_law_of" 2 ["bag", "some"] spOf := ⟨_, _, ok_of F_of TB D_take, g a_of, k_of, b_of⟩
  let D_far : Def l.prog w K mg base "_law_far" 2 ["bag", "most"] spFar := ⟨_, _, ok_far F_far D_take, g a_far, k_far, b_far⟩
  let D_bag : Def l.prog w K mg base "_law_bag" 1 ["script", "at"] (spBag K) := ⟨_, _, ok_bag F_bag TB, g a_bag, k_bag, b_bag⟩
  let D_names : Def l.prog w K mg base "_law_names" 3 ["bag", "many"] spNames := ⟨_, _, ok_names F_names TB D_take D_of, g a_names, k_names, b_names⟩
  let D_isname : Def l.prog w K mg base "is_name" 1 ["thing"] spIsName := ⟨_, _, ok_isname F_isname TO, g a_isname, k_isname, b_isname⟩
  let D_isthing : Def l.prog w K mg base "is_thing_name" 2 ["thing"] spIsThing := ⟨_, _, ok_isthing F_isthing TO D_isname, g a_isthing, k_isthing, b_isthing⟩
  let D_isint : Def l.prog w K mg base "is_integer" 1 ["thing"] spIsInt := ⟨_, _, ok_isint F_isint TO, g a_isint, k_isint, b_isint⟩
  let D_whole : Def l.prog w K mg base "is_whole" 2 ["thing", "low", "high"] spWhole := ⟨_, _, ok_whole F_whole TO D_isint, g a_whole, k_whole, b_whole⟩
  let D_binit : EDef l.prog w K mg base B 1 ["self", "what"] (spBinit B) := ⟨_, _, a_binit, ty_binit, ok_binit F_binit TO, b_binit⟩
  let D_init : MDef l.prog w K mg base C 4 ["self", "member", "thing", "side", "count", "limit"] (spInit C B) := ⟨_, _, ⟨mk_Order, a_init, i_init, kp_Order⟩, ok_init F_init TO D_isname D_isthing D_whole D_binit, b_init⟩
  let D_sign : PDef l.prog w K mg base C "sign" 1 (spSign C) := ⟨_, _, _, ⟨pa_sign, pt_sign, pk_sign, ⟨_, a_sign⟩⟩, ok_sign F_sign TO, b_sign⟩
  let D_ofcount : MeDef l.prog w K mg base C "of_count" 6 ["self", "count"] (spOfCount C B) := ⟨_, _, ⟨a_ofcount, i_ofcount, k_ofcount⟩, ok_ofcount F_ofcount TO D_init, b_ofcount⟩
  let D_eq : EqDef l.prog w K mg base C 1 ["self", "other"] (spEq K C) := ⟨_, _, a_eq, i_eq, ne, ok_eq F_eq TO, b_eq⟩
  let D_right : Def l.prog w K mg base "_law_right" 3 ["bag", "names"] spRight := ⟨_, _, ok_right F_right D_take D_of D_far, g a_right, k_right, b_right⟩
  let D_wrong : Def l.prog w K mg base "_law_wrong" 3 ["bag", "place", "name"] spWrong := ⟨_, _, ok_wrong F_wrong D_of, g a_wrong, k_wrong, b_wrong⟩
  let D_made : Def l.prog w K mg base "_law_made" 6 ["row"] (spMade C) := ⟨_, _, ok_made F_made TE D_init, g a_made, k_made, b_made⟩
  let D_counted : Def l.prog w K mg base "_law_counted" 7 ["order", "count"] (spCounted C) := ⟨_, _, ok_counted F_counted TE D_ofcount, g a_counted, k_counted, b_counted⟩
  let D_is : Def l.prog w K mg base "_law_is" 3 ["order", "row"] (spIs C) := ⟨_, _, ok_is F_is TE D_sign, g a_is, k_is, b_is⟩
  let D_unlike : Def l.prog w K mg base "_law_unlike" 1 ["row", "place"] spUnlike := ⟨_, _, ok_unlike F_unlike TE, g a_unlike, k_unlike, b_unlike⟩
  let D_goodone : Def l.prog w K mg base "_law_good_one" 8 ["bag", "row"] spGood := ⟨_, _, ok_good F_goodone TE D_take D_wrong D_made D_counted D_is D_unlike D_eq, g a_goodone, k_goodone, b_goodone⟩
  exact ok_law F_law TL D_bag D_take D_names D_right D_wrong D_made D_is D_goodone
theorem walk {l : PySem.W.OpenLaw} {q : Program} {loose : List Str} {XP : (Str → Option Value) → Heap → Prop} {YP : World → Heap → Prop} {d : DefRec} {K : Params → PySem.W.Frag} (hn : l.most = some 63) (hdf : d.params.defaults = [])
    (hY : ∀ (w : World) (h : Heap), YP w h → (K w.params).In h)
    (F : ∀ (w : World) (mg : Str → Option Value) (fa : Addr) (h : Heap), (K w.params).In h → h.Ns mainGlobals mg → mg d.name = some (.ref fa) →
      ∃ fd : FuncData, (∀ (s : Shared) (u : Value), BindsTo s fd ⟨[u], []⟩ [("script", u)]) ∧ ∀ base : Heap, (K w.params).In base → base.Ns mainGlobals mg → FnOk l.prog w (K w.params) mg base CX0 9 fa fd ["script"] (spLaw (K w.params))) :
    PySem.W.WalkO q loose XP YP l.row.toRowW d [] (fun f vs => PySem.call f vs) :=
  L2.walk_of (n := 63) (k := 9) (x := "script") (CX := fun _ => CX0) (sp := fun w => spLaw (K w.params)) hn (by decide) hdf ⟨rfl, by decide, by decide⟩ hY F (fun _ _ a ns hl _ hS => ⟨a, ns, rfl, hS, hl, fun _ => rfl⟩) fun _ _ _ _ _ z => z
end KK
open PySem PySem.W PyProof.Rows
set_option maxRecDepth 100000 in
set_option maxHeartbeats 0 in
theorem PySem.Challenge.cw_coveredday_k01_orders_made_and_refused_holds : PySem.Challenge.rw_coveredday_k01_orders_made_and_refused.Holds := by
  w_on; o_law; k_head; (case hw => w_witness2)
  k_fill
  refine KK.walk (l := PySem.Challenge.rw_coveredday_k01_orders_made_and_refused) rfl rfl (fun w h Y => PySem.W.kIn_of Y) ?F
  case F =>
    intro w mg fa h KX G hmg
    refine' KK.all_mk KX G hmg ?c_Order ?pg_Order ?hd_Order ?po_Order ?sa_Order ?mk_Order ?kp_Order ?n_Order_member ?n_Order_thing ?n_Order_side ?n_Order_count ?n_Order_limit ?rd_Order ?ga_Order ?v_Order_BUY ?v_Order_SELL ?a_init ?l_init ?c_init ?k_init ?i_init ?pa_sign ?pt_sign ?pk_sign ?a_sign ?l_sign ?c_sign ?k_sign ?a_ofcount ?l_ofcount ?c_ofcount ?k_ofcount ?i_ofcount ?a_eq ?l_eq ?c_eq ?k_eq ?i_eq ?ic_C ?ty_C ?su_C_NoneType ?su_C_int ?su_C_list ?su_C_tuple ?su_C_str ?ca_C ?cn_C ?ct_C ?cm_C ?l_C ?l_NC ?q_NC ?e_NC ?m_NC ?ty_eq ?c_BadOrder ?c_MarketError ?l_B ?h_B ?sa_B ?ex_B ?ty_B ?kp_B ?nw_B ?ga_B ?gg_B ?hd_B ?ca_B ?cm_B ?ic_B ?sv_B ?sb_B ?sm_B ?ex_M ?ic_M ?ty_M ?a_binit ?l_binit ?c_binit ?k_binit ?ty_binit ?a_isint ?l_isint ?c_isint ?k_isint ?a_whole ?l_whole ?c_whole ?k_whole ?a_isname ?l_isname ?c_isname ?k_isname ?a_isthing ?l_isthing ?c_isthing ?k_isthing ?a_bag ?l_bag ?c_bag ?k_bag ?a_take ?l_take ?c_take ?k_take ?a_of ?l_of ?c_of ?k_of ?a_names ?l_names ?c_names ?k_names ?a_far ?l_far ?c_far ?k_far ?a_right ?l_right ?c_right ?k_right ?a_wrong ?l_wrong ?c_wrong ?k_wrong ?a_made ?l_made ?c_made ?k_made ?a_counted ?l_counted ?c_counted ?k_counted ?a_is ?l_is ?c_is ?k_is ?a_unlike ?l_unlike ?c_unlike ?k_unlike ?a_goodone ?l_goodone ?c_goodone ?k_goodone ?a_law ?l_law ?c_law ?k_law ?g_MOST ?g_MOST_COUNT ?g__CASH ?g__LETTERS ?g__LONGEST_NAME ?z_int ?z_bool ?z_str ?z_len ?z_all ?z_isinstance ?z_abs ?z_range ?z_list ?z_tuple ?z_enumerate ?z_max ?z_min ?z_ValueError
    (case c_Order => k_is)
    (case pg_Order => k_is)
    (case hd_Order => k_is)
    (case po_Order => k_is)
    (case sa_Order => k_is)
    (case mk_Order => k_is)
    (case kp_Order => k_is)
    (case n_Order_member => k_is)
    (case n_Order_thing => k_is)
    (case n_Order_side => k_is)
    (case n_Order_count => k_is)
    (case n_Order_limit => k_is)
    (case rd_Order => k_is)
    (case ga_Order => k_is)
    (case v_Order_BUY => k_is)
    (case v_Order_SELL => k_is)
    (case a_init => k_is)
    (case l_init => k_is)
    (case c_init => k_is)
    (case k_init => k_is)
    (case i_init => k_is)
    (case pa_sign => k_is)
    (case pt_sign => k_is)
    (case pk_sign => k_is)
    (case a_sign => k_is)
    (case l_sign => k_is)
    (case c_sign => k_is)
    (case k_sign => k_is)
    (case a_ofcount => k_is)
    (case l_ofcount => k_is)
    (case c_ofcount => k_is)
    (case k_ofcount => k_is)
    (case i_ofcount => k_is)
    (case a_eq => k_is)
    (case l_eq => k_is)
    (case c_eq => k_is)
    (case k_eq => k_is)
    (case i_eq => k_is)
    (case ic_C => k_is)
    (case ty_C => k_is)
    (case su_C_NoneType => k_is)
    (case su_C_int => k_is)
    (case su_C_list => k_is)
    (case su_C_tuple => k_is)
    (case su_C_str => k_is)
    (case ca_C => k_is)
    (case cn_C => k_is)
    (case ct_C => k_is)
    (case cm_C => k_is)
    (case l_C => k_is)
    (case l_NC => k_is)
    (case q_NC => first | rfl | decide +kernel)
    (case e_NC => k_is)
    (case m_NC => k_is)
    (case ty_eq => k_is)
    (case c_BadOrder => k_is)
    (case c_MarketError => k_is)
    (case l_B => k_is)
    (case h_B => first | rfl | decide +kernel)
    (case sa_B => k_is)
    (case ex_B => k_is)
    (case ty_B => k_is)
    (case kp_B => k_is)
    (case nw_B => k_is)
    (case ga_B => k_is)
    (case gg_B => k_is)
    (case hd_B => k_is)
    (case ca_B => k_is)
    (case cm_B => k_is)
    (case ic_B => k_is)
    (case sv_B => k_is)
    (case sb_B => k_is)
    (case sm_B => k_is)
    (case ex_M => k_is)
    (case ic_M => k_is)
    (case ty_M => k_is)
    (case a_binit => k_is)
    (case l_binit => k_is)
    (case c_binit => k_is)
    (case k_binit => k_is)
    (case ty_binit => k_is)
    (case a_isint => k_is)
    (case l_isint => k_is)
    (case c_isint => k_is)
    (case k_isint => k_is)
    (case a_whole => k_is)
    (case l_whole => k_is)
    (case c_whole => k_is)
    (case k_whole => k_is)
    (case a_isname => k_is)
    (case l_isname => k_is)
    (case c_isname => k_is)
    (case k_isname => k_is)
    (case a_isthing => k_is)
    (case l_isthing => k_is)
    (case c_isthing => k_is)
    (case k_isthing => k_is)
    (case a_bag => k_is)
    (case l_bag => k_is)
    (case c_bag => k_is)
    (case k_bag => k_is)
    (case a_take => k_is)
    (case l_take => k_is)
    (case c_take => k_is)
    (case k_take => k_is)
    (case a_of => k_is)
    (case l_of => k_is)
    (case c_of => k_is)
    (case k_of => k_is)
    (case a_names => k_is)
    (case l_names => k_is)
    (case c_names => k_is)
    (case k_names => k_is)
    (case a_far => k_is)
    (case l_far => k_is)
    (case c_far => k_is)
    (case k_far => k_is)
    (case a_right => k_is)
    (case l_right => k_is)
    (case c_right => k_is)
    (case k_right => k_is)
    (case a_wrong => k_is)
    (case l_wrong => k_is)
    (case c_wrong => k_is)
    (case k_wrong => k_is)
    (case a_made => k_is)
    (case l_made => k_is)
    (case c_made => k_is)
    (case k_made => k_is)
    (case a_counted => k_is)
    (case l_counted => k_is)
    (case c_counted => k_is)
    (case k_counted => k_is)
    (case a_is => k_is)
    (case l_is => k_is)
    (case c_is => k_is)
    (case k_is => k_is)
    (case a_unlike => k_is)
    (case l_unlike => k_is)
    (case c_unlike => k_is)
    (case k_unlike => k_is)
    (case a_goodone => k_is)
    (case l_goodone => k_is)
    (case c_goodone => k_is)
    (case k_goodone => k_is)
    (case a_law => k_is)
    (case l_law => k_is)
    (case c_law => k_is)
    (case k_law => k_is)
    (case g_MOST => k_is)
    (case g_MOST_COUNT => k_is)
    (case g__CASH => k_is)
    (case g__LETTERS => k_is)
    (case g__LONGEST_NAME => k_is)
    (case z_int => k_is)
    (case z_bool => k_is)
    (case z_str => k_is)
    (case z_len => k_is)
    (case z_all => k_is)
    (case z_isinstance => k_is)
    (case z_abs => k_is)
    (case z_range => k_is)
    (case z_list => k_is)
    (case z_tuple => k_is)
    (case z_enumerate => k_is)
    (case z_max => k_is)
    (case z_min => k_is)
    (case z_ValueError => k_is)
