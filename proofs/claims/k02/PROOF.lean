import PyProof.Rows.All
import Wide.All
import OpenK.AllK
import Wide.FinOn
import HandS.ForMost
import HandS.Walk
import HandS.Style
import HandS.IsInst
import HandS.Property
import HandS.ClsMeth
import HandS.Conv
import HandS.Codes
import PySem.Challenge.RW_coveredday_k02_orders_that_meet
set_option Elab.async false
set_option linter.all false
set_option maxRecDepth 100000
set_option maxHeartbeats 0

namespace RD
open PySem PySem.Spec PyProof.Rows L2
section
variable {K : PySem.W.Frag} {σ : L2.St} {H : Hp} {Q : VK} {D : Ends}
theorem seq {t u : TS} (h : t { D with nx := u D } σ H) : tSeq t u D σ H := h
theorem ifS {c : TT} {t u : TS} (h : c σ H fun b H1 => if b = true then t D σ H1 else u D σ H1) : tIfS c t u D σ H := h
theorem test {t : TE} {Q : Bool → Hp → Prop} (h : t σ H fun x H' => ∃ k, x = .bl k ∧ Q k H') : tTest t σ H Q := h
theorem tB_ {t : TE} {Q : Bool → Hp → Prop} (h : t σ H fun x H' => ∃ k, x = .bl k ∧ Q k H') : tB t σ H Q := h
theorem op {r : R2} {ta tb : TE} (h : ta σ H fun x H1 => tb σ H1 fun y H2 => r x y H2 Q) : tOp r ta tb σ H Q := h
theorem un {r : V → Hp → VK → Prop} {ta : TE} (h : ta σ H fun x H1 => r x H1 Q) : tUn r ta σ H Q := h
theorem var {i : Nat} {v : V} (e : σ[i]? = some (some v)) (h : Q v H) : tVar i σ H Q := ⟨v, e, h⟩
theorem c_ {v : V} (h : Q v H) : tC v σ H Q := h
theorem cons {ta : TE} {tr : TA} {Q : List V → Hp → Prop} (h : ta σ H fun x H1 => tr σ H1 fun xs H2 => Q (x :: xs) H2) : tCons ta tr σ H Q := h
theorem nil {Q : List V → Hp → Prop} (h : Q [] H) : tNil σ H Q := h
theorem cb {r : List V → Hp → VK → Prop} {t : TA} (h : t σ H fun vs H1 => r vs H1 Q) : tCB r t σ H Q := h
theorem call {sp : Sp} {dvs : List V} {E : XK} {t : TA} (h : t σ H fun vs H1 => sp (vs ++ dvs) H1 Q E) : tCall sp dvs E t σ H Q := h
theorem asg {te : TE} {g : TG} (h : te σ H fun x H1 => g x σ H1 D.nx) : tAsg te g D σ H := h
theorem gname {i : Nat} {v : V} {Q : L2.St → Hp → Prop} (h : Q (σ.set i (some v)) H) : gName i v σ H Q := h
theorem gsub {to ti : TE} {t : TSet} {v : V} {Q : L2.St → Hp → Prop} (h : to σ H fun o H1 => ti σ H1 fun i H2 => t o i v H2 fun H3 => Q σ H3) : gSub to ti t v σ H Q := h
theorem ret {te : TE} (h : te σ H D.rt) : tRet te D σ H := h
theorem drop {te : TE} (h : te σ H fun _ H1 => D.nx σ H1) : tDrop te D σ H := h
theorem next (h : D.nx σ H) : tNext D σ H := h
theorem not_ {t : TT} {Q : Bool → Hp → Prop} (h : t σ H fun c H1 => Q (!c) H1) : tNot t σ H Q := h
theorem and_ {t u : TT} {Q : Bool → Hp → Prop} (h : t σ H fun c H1 => if c = true then u σ H1 Q else Q false H1) : tAnd t u σ H Q := h
theorem or_ {t u : TT} {Q : Bool → Hp → Prop} (h : t σ H fun c H1 => if c = true then Q true H1 else u σ H1 Q) : tOr t u σ H Q := h
theorem if_ {t : TT} {ta tb : TE} (h : t σ H fun c H1 => if c = true then ta σ H1 Q else tb σ H1 Q) : tIf t ta tb σ H Q := h
theorem chain {r r' : R2} {ta tb tc : TE} (h : ta σ H fun x H1 => tb σ H1 fun y H2 => r x y H2 fun z H3 => ∃ k, z = .bl k ∧ (if k = true then tc σ H3 fun w' H4 => r' y w' H4 Q else Q (.bl false) H3)) : tChain r r' ta tb tc σ H Q := h
theorem notV {t : TE} (h : t σ H fun x H1 => ∃ c, x = .bl c ∧ Q (.bl (!c)) H1) : tNotV t σ H Q := h
theorem andV {ta tb : TE} (h : ta σ H fun x H1 => ∃ c, x = .bl c ∧ if c = true then tb σ H1 Q else Q (.bl false) H1) : tAndV ta tb σ H Q := h
theorem orV {ta tb : TE} (h : ta σ H fun x H1 => ∃ c, x = .bl c ∧ if c = true then Q (.bl true) H1 else tb σ H1 Q) : tOrV ta tb σ H Q := h
theorem fld {ta : TE} {f : Str} (h : ta σ H fun x H1 => ∃ a C dx fs v, x = .ref a ∧ H1 a = some (.ins C dx fs) ∧ Cls K C ∧ NoAttr K C f ∧ fs.lookup f = some v ∧ Q v H1) : tFld K ta f σ H Q := h
theorem lst {t : TA} (h : t σ H fun xs H1 => xs.length ≤ sizeLine ∧ ∀ p, H1 p = none → Q (.ref p) (upd H1 p (.lst xs))) : tLst t σ H Q := h
theorem tup {t : TA} (h : t σ H fun xs H1 => xs.length ≤ sizeLine ∧ ∀ p, H1 p = none → Q (.ref p) (upd H1 p (.tup xs))) : tTup t σ H Q := h
theorem sl {r : V → Option Int → Option Int → Hp → VK → Prop} {te : TE} {tl th : TO} (h : te σ H fun x H1 => tl σ H1 fun l H2 => th σ H2 fun u H3 => r x l u H3 Q) : tSl r te tl th σ H Q := h
theorem part {t : TE} {Q : Option Int → Hp → Prop} (h : t σ H fun x H1 => ∃ i, x = .int i ∧ Q (some i) H1) : tPart t σ H Q := h
theorem nopart {Q : Option Int → Hp → Prop} (h : Q none H) : tNoPart σ H Q := h
theorem bm {T : String} {r : V → List V → Hp → VK → Prop} {to : TE} {t : TA} (h : to σ H fun x H1 => tyV K T x H1 ∧ t σ H1 fun xs H2 => r x xs H2 Q) : tBM K T r to t σ H Q := h
theorem par {i j : Nat} {ta : TA} (h : ta σ H fun vs H1 => ∃ v w, vs = [v, w] ∧ D.nx ((σ.set i (some v)).set j (some w)) H1) : tPar i j ta D σ H := h
-- values
theorem i0 {g : Int → Int → V} {i j : Int} (h : Q (g i j) H) : rI0 g (.int i) (.int j) H Q := ⟨i, j, rfl, rfl, h⟩
theorem iC {C : Int → Int → Prop} {g : Int → Int → V} {i j : Int} (c : C i j) (h : Q (g i j) H) : rI C g (.int i) (.int j) H Q := ⟨i, j, rfl, rfl, c, h⟩
theorem u_ {g : Int → V} {i : Int} (h : Q (g i) H) : rU g (.int i) H Q := ⟨i, rfl, h⟩
theorem eq_ {x y : V} (s : scal x y = true) (h : Q (.bl (decide (x = y))) H) : rEq x y H Q := ⟨s, h⟩
theorem ne_ {x y : V} (s : scal x y = true) (h : Q (.bl (!decide (x = y))) H) : rNe x y H Q := ⟨s, h⟩
theorem ixL {p : Addr} {xs : List V} {i : Int} {v : V} (s : SqL K H p xs) (e : atI xs i = some v) (h : Q v H) : rIxL K (.ref p) (.int i) H Q := ⟨p, xs, i, v, rfl, rfl, s, e, h⟩
theorem setL {p : Addr} {xs : List V} {i : Int} {j : Nat} {v : V} {Q : Hp → Prop} (s : H p = some (.lst xs)) (e : ixN xs.length i = some j) (h : Q (upd H p (.lst (xs.set j v)))) : rSetL (.ref p) (.int i) v H Q := ⟨p, xs, i, j, rfl, rfl, s, e, h⟩
theorem mulr {i j : Int} (h1 : -(2 ^ 64) < j) (h2 : j < 2 ^ 64) : CMul i j := .inr ⟨h1, h2⟩
theorem mull {i j : Int} (h1 : -(2 ^ 64) < i) (h2 : i < 2 ^ 64) : CMul i j := .inl ⟨h1, h2⟩
end

theorem bm_ {K : PySem.W.Frag} {σ : L2.St} {H : Hp} {Q : VK} {T : String} {r : V → List V → Hp → VK → Prop} {to : TE} {t : TA} (h : to σ H fun x H1 => tyV K T x H1 ∧ t σ H1 fun xs H2 => r x xs H2 Q) : tBM K T r to t σ H Q := h
section
variable {K : PySem.W.Frag} {σ : L2.St} {H : Hp} {Q : VK} {D : Ends}
theorem par3 {i j l : Nat} {ta : TA} (h : ta σ H fun vs H1 => ∃ u v w, vs = [u, v, w] ∧ D.nx (((σ.set i (some u)).set j (some v)).set l (some w)) H1) : tPar3 i j l ta D σ H := h
theorem append {l : Addr} {xs : List V} {y : V} (s : H l = some (.lst xs)) (z : xs.length < sizeLine) (h : Q .non (upd H l (.lst (xs ++ [y])))) : rAppend (.ref l) [y] H Q := ⟨l, xs, y, rfl, rfl, s, z, h⟩
theorem slS {z : Str} {lo hi : Option Int} (s : z.length ≤ sizeLine) (h : Q (.str (cutS z lo hi)) H) : rSlS (.str z) lo hi H Q := ⟨z, rfl, s, h⟩
theorem slL {a : Addr} {xs : List V} {lo hi : Option Int} (s : SqL K H a xs) (h : ∀ p, H p = none → Q (.ref p) (upd H p (.lst (cutV xs lo hi)))) : rSlL K (.ref a) lo hi H Q := ⟨a, xs, rfl, s, h⟩
theorem isB {a b : Bool} (h : Q (.bl (decide (a = b))) H) : rIsB (.bl a) (.bl b) H Q := ⟨a, b, rfl, rfl, h⟩
theorem notB {a b : Bool} (h : Q (.bl (!decide (a = b))) H) : rNotB (.bl a) (.bl b) H Q := ⟨a, b, rfl, rfl, h⟩
theorem allB {a : Addr} {bs : List Bool} (s : SqL K H a (bs.map V.bl)) (h : Q (.bl (bs.all id)) H) : rAll K [V.ref a] H Q := ⟨a, bs, rfl, s, h⟩
theorem gnil {Q : L2.St → Hp → Prop} (h : Q σ H) : gNil [] σ H Q := ⟨rfl, h⟩
theorem gcons {t : TG} {u : TGs} {v : V} {r : List V} {Q : L2.St → Hp → Prop} (h : t v σ H fun σ' H' => u r σ' H' Q) : gCons t u (v :: r) σ H Q := ⟨v, r, rfl, h⟩
theorem gtup {n : Nat} {t : TGs} {a : Addr} {xs : List V} {Q : L2.St → Hp → Prop} (s : SqT K H a xs) (e : xs.length = n) (h : t xs σ H Q) : gTup K n t (.ref a) σ H Q := ⟨a, xs, rfl, s, e, h⟩
theorem for_ {wi : TI} {g : TG} {tb : TS} {R : It → Hp → Prop} (e : tFor wi g tb D σ H = wi σ H R) (h : wi σ H R) : tFor wi g tb D σ H := by
  rw [e]
  exact h
theorem lc {wi : TI} {g : TG} {tt : TT} {te : TE} {vs : List Nat} {R : It → Hp → Prop} (e : tLc wi g tt te vs σ H Q = wi σ H R) (h : wi σ H R) : tLc wi g tt te vs σ H Q := by
  rw [e]
  exact h
theorem ienum {ta : TA} {R : It → Hp → Prop} {R' : List V → Hp → Prop} (e : iEnum K ta σ H R = ta σ H R') (h : ta σ H R') : iEnum K ta σ H R := by
  rw [e]
  exact h
theorem irng1 {ta : TA} {R : It → Hp → Prop} {R' : List V → Hp → Prop} (e : iRng1 ta σ H R = ta σ H R') (h : ta σ H R') : iRng1 ta σ H R := by
  rw [e]
  exact h
theorem ilist {ta : TE} {R : It → Hp → Prop} {R' : VK} (e : iList K ta σ H R = ta σ H R') (h : ta σ H R') : iList K ta σ H R := by
  rw [e]
  exact h
theorem itup {ta : TE} {R : It → Hp → Prop} {R' : VK} (e : iTup K ta σ H R = ta σ H R') (h : ta σ H R') : iTup K ta σ H R := by
  rw [e]
  exact h
theorem istr {ta : TE} {R : It → Hp → Prop} {R' : VK} (e : iStr ta σ H R = ta σ H R') (h : ta σ H R') : iStr ta σ H R := by
  rw [e]
  exact h
theorem yes {Q : Bool → Hp → Prop} (h : Q true H) : tYes σ H Q := h
theorem prop {C : Addr} {sp : Sp} {dvs : List V} {E : XK} {ta : TE} (h : ta σ H fun x H1 => ∃ a dx fs, x = .ref a ∧ H1 a = some (.ins C dx fs) ∧ sp (.ref a :: dvs) H1 Q E) : tProp C sp dvs E ta σ H Q := h
theorem cval {ta : TE} {f : Str} (h : ta σ H fun x H1 => ∃ C mc v u, x = .ref C ∧ ClX.CRead K C mc ∧ ClX.CVal K C mc f v u ∧ Q v H1) : ClX.tCVal K ta f σ H Q := h
theorem ntt {A B : Prop} (h : B) : if (!true) = true then A else B := h
theorem ntf {A B : Prop} (h : A) : if (!false) = true then A else B := h
theorem sfld {ta tv : TE} {f : Str} {R : VK} (e : sFld K ta tv f D σ H = tv σ H R) (h : tv σ H R) : sFld K ta tv f D σ H := by
  rw [e]
  exact h
theorem lenp {f : Str} {v : V} {fs : List (Str × V)} {k : Nat} (h : fs.length + (k + 1) < 1000) : (putF f v fs).length + k < 1000 := by
  have := length_putF f v fs
  omega
theorem make {C : Addr} {sp : Sp} {dvs : List V} {E : XK} {t : TA} {R : List V → Hp → Prop} (e : tMake C sp dvs E t σ H Q = t σ H R) (h : t σ H R) : tMake C sp dvs E t σ H Q := by
  rw [e]
  exact h
theorem meth {C : Addr} {m : Str} {sp : Sp} {dvs : List V} {E : XK} {ta : TE} {t : TA} {R : VK} (e : tMeth C m sp dvs E ta t σ H Q = ta σ H R) (h : ta σ H R) : tMeth C m sp dvs E ta t σ H Q := by
  rw [e]
  exact h
theorem tyL {l : Addr} {xs : List V} (h : H l = some (.lst xs)) : tyV K "list" (.ref l) H := Or.inl ⟨rfl, xs, .inl (.inl h)⟩
end

end RD

local macro_rules
  | `(tactic| walk_at "rd_c") => `(tactic| first
    | (exact RD.mulr (by decide) (by decide)) | (exact RD.mull (by decide) (by decide)) | (exact RD.mulr (by omega) (by omega)) | (exact RD.mull (by omega) (by omega))
    | (exact ⟨by decide, by decide⟩) | (exact (⟨by omega, by omega⟩ : L2.CDiv _ _)) | (exact (⟨by decide, by decide, by decide⟩ : L2.CPow _ _))
    | (show (0 : Int) < _; first | decide | omega))
local macro_rules
  | `(tactic| walk_at "rd_h") => `(tactic| first | assumption | exact L2.SqL.of (by assumption) | exact L2.upd_same | exact L2.SqL.of L2.upd_same | exact L2.SqT.of (by assumption) | exact L2.SqT.of L2.upd_same)
local macro_rules
  | `(tactic| walk_at "rd_z") => `(tactic| first | (decide; done) | exact Nat.le_trans (show _ ≤ 1000 by first | omega | (simp; omega)) (by decide) | exact Nat.lt_of_le_of_lt (show _ ≤ 1000 by first | omega | (simp; omega)) (by decide))
local macro_rules
  | `(tactic| walk_at "rd_l") => `(tactic| first | (show 0 < 1000; decide) | ((refine RD.lenp (k := 0) ?_); (repeat refine RD.lenp ?_); (decide)))
local macro_rules
  | `(tactic| walk_at "rd1") => `(tactic| with_reducible first
    | apply RD.op
    | (apply RD.var; (with_unfolding_all rfl))
    | apply RD.c_
    | (apply RD.ixL; (with_unfolding_all walk_at "rd_h"); (with_unfolding_all rfl))
    | apply RD.cons
    | apply RD.nil
    | apply RD.test
    | apply RD.cb
    | apply RD.call
    | apply RD.i0
    | apply RD.asg
    | apply RD.gname
    | apply RD.seq
    | apply RD.ret
    | (apply RD.eq_; (with_unfolding_all rfl))
    | (apply RD.ne_; (with_unfolding_all rfl))
    | apply RD.ifS
    | (apply RD.iC; (with_unfolding_all walk_at "rd_c"))
    | apply RD.next
    | apply RD.tB_
    | apply RD.gsub
    | apply RD.drop
    | apply RD.if_
    | apply RD.not_
    | apply RD.or_
    | apply RD.and_
    | apply RD.un
    | apply RD.chain
    | apply RD.notV
    | apply RD.andV
    | apply RD.orV
    | apply RD.fld
    | apply RD.lst
    | apply RD.tup
    | apply RD.sl
    | apply RD.part
    | apply RD.nopart
    | apply RD.bm
    | apply RD.par
    | apply RD.par3
    | apply RD.u_
    | (apply RD.setL; (with_unfolding_all walk_at "rd_h"); (with_unfolding_all rfl))
    | (apply RD.for_; (with_unfolding_all rfl))
    | (apply RD.lc; (with_unfolding_all rfl))
    | (apply RD.ienum; (with_unfolding_all rfl))
    | (apply RD.irng1; (with_unfolding_all rfl))
    | (apply RD.ilist; (with_unfolding_all rfl))
    | (apply RD.itup; (with_unfolding_all rfl))
    | (apply RD.istr; (with_unfolding_all rfl))
    | (apply RD.slS; (with_unfolding_all walk_at "rd_z"))
    | (apply RD.append; (with_unfolding_all walk_at "rd_h"); (with_unfolding_all walk_at "rd_z"))
    | refine ⟨RD.tyL (by with_unfolding_all walk_at "rd_h"), ?_⟩
    | apply RD.yes
    | apply L2.iteT
    | apply L2.iteF
    | apply RD.ntt
    | apply RD.ntf
    | refine ⟨_, _, _, _, _, rfl, by assumption, by with_unfolding_all assumption, by with_unfolding_all walk_at "rd_n", by walk_at "rd_f", ?_⟩
    | apply RD.prop
    | apply RD.cval
    | (apply RD.make; (with_unfolding_all rfl))
    | (apply RD.meth; (with_unfolding_all rfl))
    | (apply RD.sfld; (with_unfolding_all rfl))
    | refine ⟨_, _, _, _, rfl, by with_unfolding_all walk_at "rd_h", by with_unfolding_all assumption, by with_unfolding_all walk_at "rd_n", by with_unfolding_all walk_at "rd_l", ?_⟩
    | apply RD.isB
    | apply RD.notB
    | apply RD.gnil
    | apply RD.gcons
    | (apply RD.gtup; (with_unfolding_all walk_at "rd_h"); (with_unfolding_all rfl))
    | refine Or.inl ⟨_, rfl, ?_⟩
    | refine ⟨_, _, rfl, Or.inl (by with_unfolding_all walk_at "rd_h"), ?_⟩
    | refine ⟨_, _, rfl, rfl, by with_unfolding_all walk_at "rd_z", ?_⟩
    | refine ⟨_, rfl, ?_⟩
   )
local macro_rules
  | `(tactic| walk_at "rd") => `(tactic| repeat walk_at "rd1")

namespace KK
open PySem PySem.Spec PyProof.Rows L2
def top (i : Nat) : Stmt := PySem.Challenge.pw_coveredday_k02_orders_that_meet.main.body.getD i (.Pass ⟨0, 0, 0, 0⟩)
/-! ### a rule: list(text) -/
theorem call_listS {X : Cx} (hc : X.calm = true) : CallR X (.type "list") (fun xs H Q => ∃ z : Str, xs = [.str z] ∧ z.length ≤ sizeLine ∧ ∀ p, H p = none → Q (.ref p) (upd H p (.lst (z.cps.toList.map fun c => V.str ⟨#[c]⟩)))) := by
  intro pins s σ H xs us Q I r h
  obtain ⟨z, rfl, hz, q⟩ := h
  obtain ⟨u, rfl, rx⟩ := vals1 r
  obtain ⟨t, rfl⟩ := rx
  refine PySem.call_list_str (I.ok.hd hc) z t (hn := hz) fun h' tk acc' c' hk hS' hacc => ?_
  refine ⟨.ref s.heap.objs.size, _, I.laid (t' := tk) hk (Nat.le_refl _) (show ObjOk X.prog X.w _ h' _ (.lst _) from ⟨by rw [List.length_map, Array.length_toList]; exact hz, acc'.toList, c', ?_, by simpa using hS'⟩), rfl, q _ (I.hok.fresh (Nat.le_refl _))⟩
  refine vals_of_idx _ _ (by rw [List.length_map, Array.length_toList, Array.length_toList]; exact hacc.1) fun j u hj => ?_
  obtain ⟨c, u', hc', rfl⟩ := hacc.2 j u (by simpa using hj)
  exact ⟨.str ⟨#[c]⟩, by simp [hc'], ⟨u', rfl⟩⟩
/-! ### a def as its callers know it -/
structure Def (P : Program) (w : World) (K : PySem.W.Frag) (mg : Str → Option Value) (base : Heap) (x : Str) (k : Nat) (ps : List Str) (sp : Sp) where
  f : Addr
  fd : FuncData
  ok : FnOk P w K mg base CX0 k f fd ps sp
  mg : mg x = some (.ref f)
  kp : PySem.W.keepIn K (.ref f) = true
  b : Binds K fd ps []
/-! ### heaps: the bag may change, all else stays -/
def Bag (H : Hp) (b : Addr) : Prop := ∃ x y : Int, H b = some (.lst [.int x, .int y])
def Ext (b : Addr) (H H' : Hp) : Prop := Bag H' b ∧ ∀ c o, H c = some o → c ≠ b → H' c = some o
theorem Ext.refl {b : Addr} {H : Hp} (h : Bag H b) : Ext b H H := ⟨h, fun _ _ e _ => e⟩
theorem Ext.trans {b : Addr} {H H1 H2 : Hp} (e : Ext b H H1) (f : Ext b H1 H2) : Ext b H H2 := ⟨f.1, fun c o h n => f.2 c o (e.2 c o h n) n⟩
theorem ext_bag {b : Addr} {H : Hp} (x y : Int) : Ext b H (upd H b (.lst [.int x, .int y])) := ⟨⟨x, y, upd_same⟩, fun c o e n => by rw [upd_ne n]; exact e⟩
theorem ext_new {b p : Addr} {H : Hp} {o : HO} (h : Bag H b) (n : H p = none) : Ext b H (upd H p o) := by
  obtain ⟨x, y, e⟩ := h
  exact ⟨⟨x, y, by rw [upd_ne (ne_of_none e n)]; exact e⟩, fun c o' e' _ => by rw [upd_ne (ne_of_none e' n)]; exact e'⟩
theorem ne_bag {b p : Addr} {H : Hp} (h : Bag H b) (n : H p = none) : p ≠ b := by
  obtain ⟨x, y, e⟩ := h
  exact (ne_of_none e n).symm
/-- something other than the bag is changed -/
theorem ext_set {b p : Addr} {H H1 : Hp} {o : HO} (e : Ext b H H1) (n : p ≠ b) (h : H p = none) : Ext b H (upd H1 p o) := by
  obtain ⟨⟨x, y, z⟩, k⟩ := e
  exact ⟨⟨x, y, by rw [upd_ne n.symm]; exact z⟩, fun c o' e' m => by rw [upd_ne (ne_of_none e' h)]; exact k c o' e' m⟩
/-! ### promises -/
def spTake : Sp := fun vs H Q _ => ∃ (b : Addr) (m : Int), vs = [.ref b, .int m] ∧ Bag H b ∧ 0 < m ∧ m < 1073741824 ∧ ∀ (r : Int) (H' : Hp), 0 ≤ r → r < m → Ext b H H' → Q (.int r) H'
def spOf : Sp := fun vs H Q _ => ∃ (b l : Addr) (xs : List V), vs = [.ref b, .ref l] ∧ Bag H b ∧ H l = some (.lst xs) ∧ l ≠ b ∧ 0 < xs.length ∧ xs.length < 1000 ∧ ∀ (v : V) (H' : Hp), v ∈ xs → Ext b H H' → Q v H'
def spFar : Sp := fun vs H Q _ => ∃ (b : Addr) (m : Int), vs = [.ref b, .int m] ∧ Bag H b ∧ 0 ≤ m ∧ ∀ (r : Int) (H' : Hp), 0 ≤ r → r ≤ m → Ext b H H' → Q (.int r) H'
def spBag (K : PySem.W.Frag) : Sp := fun vs H Q _ => ∃ (a : Addr) (ns : List Int) (i : Nat), vs = [.ref a, .int i] ∧ SqL K H a (ns.map V.int) ∧ ns.length ≤ 63 ∧ ∀ (b : Addr) (H' : Hp), H b = none → Bag H' b → Same H H' → Q (.ref b) H'
structure TxtB (mg : Str → Option Value) : Prop where
  b_int : mg "int" = none
  b_abs : mg "abs" = none
  b_len : mg "len" = none
  b_range : mg "range" = none
  b_list : mg "list" = none
  b_enumerate : mg "enumerate" = none
section
variable {P : Program} {w : World} {K : PySem.W.Frag} {mg : Str → Option Value} {base : Heap}
abbrev s_take : Stmt := top 19
theorem sc_take : FnScope ["bag", "many", "digit"] ["bag", "many"] (defScope s_take) := ⟨rfl, rfl, rfl, by decide +kernel, rfl, by decide +kernel, by decide +kernel⟩
theorem ok_take {f : Addr} {fd : FuncData} (F : Fun K "_law_take" "_law_take" s_take f fd) (T : TxtB mg) : FnOk P w K mg base CX0 1 f fd ["bag", "many"] spTake := by
  refine F.ok sc_take (fun vs H Q E h => ?_) (fun cdv A outer s H vs Q E hr h => ?_)
  · obtain ⟨b, m, rfl, _⟩ := h
    rfl
  · obtain ⟨b, m, rfl, ⟨x, y, hb⟩, m0, m1, k⟩ := h
    refine ⟨_, (pss_cons (ps_if (pt_cmpR op_gt (pe_ix ix_list (pv 0) pe_int (fun _ _ => rfl)) pe_int (nomark _)) (pss_cons (ps_set (i := 2) sc_take.nd rfl (.inl rfl) (pe_op op_mod (pe_callTy call_int1 (by rfl) T.b_int (by decide +kernel) (pa_cons (pe_ix ix_list (pv 0) pe_int (fun _ _ => rfl)) pa_nil)) (pv 1)))
      (pss_cons (ps_asg (pe_op op_fdiv (pe_ix ix_list (pv 0) pe_int (fun _ _ => rfl)) (pv 1)) (pg_sub (pv 0) pe_int set_list))
      (pss_one (ps_ret (pv 2))))) pss_nil)
      (pss_cons (ps_asg (pe_op op_mod (pe_callTy call_int1 (by rfl) T.b_int (by decide +kernel) (pa_cons (pe_op op_add (pe_op op_mul (pe_ix ix_list (pv 0) pe_int (fun _ _ => rfl)) pe_int) pe_int) pa_nil)) pe_int) (pg_sub (pv 0) pe_int set_list))
      (pss_one (ps_ret (pe_op op_mod (pe_op op_fdiv (pe_op op_mod (pe_callTy call_int1 (by rfl) T.b_int (by decide +kernel) (pa_cons (pe_op op_mul (pe_op op_fdiv (pe_ix ix_list (pv 0) pe_int (fun _ _ => rfl)) pe_int) pe_int) pa_nil)) pe_int) pe_int) (pv 1)))))), ?_⟩
    walk_at "rd"
    refine ite2 (fun c => ?_) (fun c => ?_)
    · walk_at "rd"
      exact k _ _ (Int.emod_nonneg _ (by omega)) (Int.emod_lt_of_pos _ m0) (ext_bag _ _)
    · walk_at "rd"
      exact k _ _ (Int.emod_nonneg _ (by omega)) (Int.emod_lt_of_pos _ m0) (ext_bag _ _)
abbrev s_of : Stmt := top 20
theorem sc_of : FnScope ["bag", "some"] ["bag", "some"] (defScope s_of) := ⟨rfl, rfl, rfl, by decide +kernel, rfl, by decide +kernel, by decide +kernel⟩
theorem ok_of {f : Addr} {fd : FuncData} (F : Fun K "_law_of" "_law_of" s_of f fd) (T : TxtB mg) (D_take : Def P w K mg base "_law_take" 1 ["bag", "many"] spTake) : FnOk P w K mg base CX0 2 f fd ["bag", "some"] spOf := by
  refine F.ok sc_of (fun vs H Q E h => ?_) (fun cdv A outer s H vs Q E hr h => ?_)
  · obtain ⟨b, l, xs, rfl, _⟩ := h
    rfl
  · obtain ⟨b, l, xs, rfl, hb, hl, nlb, x0, x1, k⟩ := h
    refine ⟨_, (pss_one (ps_ret (pe_ix ix_list (pv 1) (pe_call D_take.ok (hr.mono (by decide)) (by rfl) D_take.mg D_take.kp D_take.b .nil pass0 (pa_cons (pv 0) (pa_cons (pe_callB call_len_seq (by rfl) T.b_len (by decide +kernel) (pa_cons (pv 1) pa_nil)) pa_nil))) (fun _ _ => rfl)))), ?_⟩
    walk_at "rd"
    refine ⟨b, _, rfl, hb, by omega, by omega, fun r H' r0 r1 e => ?_⟩
    have hj : r.toNat < xs.length := by omega
    refine ⟨l, xs, r, xs[r.toNat], rfl, rfl, SqL.of (e.2 _ _ hl nlb), at_of (j := r.toNat) (by omega) (List.getElem?_eq_getElem hj), ?_⟩
    exact k _ _ (List.getElem_mem hj) e
abbrev s_far : Stmt := top 22
theorem sc_far : FnScope ["bag", "most", "value"] ["bag", "most"] (defScope s_far) := ⟨rfl, rfl, rfl, by decide +kernel, rfl, by decide +kernel, by decide +kernel⟩
theorem ok_far {f : Addr} {fd : FuncData} (F : Fun K "_law_far" "_law_far" s_far f fd) (D_take : Def P w K mg base "_law_take" 1 ["bag", "many"] spTake) : FnOk P w K mg base CX0 2 f fd ["bag", "most"] spFar := by
  refine F.ok sc_far (fun vs H Q E h => ?_) (fun cdv A outer s H vs Q E hr h => ?_)
  · obtain ⟨b, m, rfl, _⟩ := h
    rfl
  · obtain ⟨b, m, rfl, hb, m0, k⟩ := h
    refine ⟨_, (pss_cons (ps_set (i := 2) sc_far.nd rfl (.inl rfl) (pe_op op_add (pe_op op_add (pe_op op_mul (pe_call D_take.ok (hr.mono (by decide)) (by rfl) D_take.mg D_take.kp D_take.b .nil pass0 (pa_cons (pv 0) (pa_cons (pe_op op_pow pe_int pe_int) pa_nil))) (pe_op op_pow pe_int pe_int)) (pe_op op_mul (pe_call D_take.ok (hr.mono (by decide)) (by rfl) D_take.mg D_take.kp D_take.b .nil pass0 (pa_cons (pv 0) (pa_cons (pe_op op_pow pe_int pe_int) pa_nil))) (pe_op op_pow pe_int pe_int))) (pe_call D_take.ok (hr.mono (by decide)) (by rfl) D_take.mg D_take.kp D_take.b .nil pass0 (pa_cons (pv 0) (pa_cons (pe_op op_pow pe_int pe_int) pa_nil)))))
      (pss_one (ps_ret (pe_op op_mod (pv 2) (pe_op op_add (pv 1) pe_int))))), ?_⟩
    walk_at "rd"
    refine ⟨b, _, rfl, hb, by decide, by decide, fun r1 H1 l1 u1 e1 => ?_⟩
    walk_at "rd"
    refine ⟨b, _, rfl, e1.1, by decide, by decide, fun r2 H2 l2 u2 e2 => ?_⟩
    walk_at "rd"
    refine ⟨b, _, rfl, e2.1, by decide, by decide, fun r3 H3 l3 u3 e3 => ?_⟩
    walk_at "rd"
    exact k _ _ (Int.emod_nonneg _ (by omega)) (by have := Int.emod_lt_of_pos (r1 * 10 ^ (12 : Int).toNat + r2 * 10 ^ (6 : Int).toNat + r3) (show 0 < m + 1 by omega); omega) ((e1.trans e2).trans e3)

theorem cut_int {ns : List Int} {lo hi : Option Int} {i : Nat} {y : V} (h : (cutV (ns.map V.int) lo hi)[i]? = some y) : ∃ z, y = V.int z := by
  have m := List.mem_of_getElem? h
  unfold cutV at m
  have m2 := List.mem_of_mem_drop (List.mem_of_mem_take m)
  obtain ⟨z, _, e⟩ := List.mem_map.mp m2
  exact ⟨z, e.symm⟩
theorem Same.new {H H' : Hp} {p : Addr} {o : HO} (s : Same H H') (n : H' p = none) : Same H (upd H' p o) := fun c u e => by
  rw [upd_ne (ne_of_none (s _ _ e) n)]
  exact s _ _ e
abbrev s_bag : Stmt := top 18
theorem sc_bag : FnScope ["script", "at", "cell", "mixed", "k", "each"] ["script", "at"] (defScope s_bag) := ⟨rfl, rfl, rfl, by decide +kernel, rfl, by decide +kernel, by decide +kernel⟩
theorem ok_bag {f : Addr} {fd : FuncData} (F : Fun K "_law_bag" "_law_bag" s_bag f fd) (T : TxtB mg) : FnOk P w K mg base CX0 1 f fd ["script", "at"] (spBag K) := by
  refine F.ok sc_bag (fun vs H Q E h => ?_) (fun cdv A outer s H vs Q E hr h => ?_)
  · obtain ⟨a, ns, i, rfl, _⟩ := h
    rfl
  · obtain ⟨a, ns, i, rfl, hS, hlen, k⟩ := h
    refine ⟨_, (pss_cons (ps_set (i := 2) sc_bag.nd rfl (.inl rfl) (pe_ifExp (pt_cmpR op_lt (pv 1) (pe_callB call_len_seq (by rfl) T.b_len (by decide +kernel) (pa_cons (pv 0) pa_nil)) (nomark _)) (pe_ix ix_list (pv 0) (pv 1) (fun _ _ => rfl)) pe_int))
      (pss_cons (ps_set (i := 3) sc_bag.nd rfl (.inl rfl) (pe_op op_add (pe_op op_mul pe_int (pv 1)) pe_int))
      (pss_cons (ps_for PassesOwn.never rfl (pi_enum (by rfl) T.b_enumerate (pa_cons (pe_slice sl_list (pv 0) po_none (po_some pe_int)) pa_nil)) (pg_tup rfl (pgs_cons (pg_name (i := 4) sc_bag.nd rfl (.inl rfl)) (pgs_cons (pg_name (i := 5) sc_bag.nd rfl (.inl rfl)) pgs_nil)))
      (pss_one (ps_set (i := 3) sc_bag.nd rfl (.inl rfl) (pe_op op_mod (pe_callTy call_int1 (by rfl) T.b_int (by decide +kernel) (pa_cons (pe_op op_add (pe_op op_add (pe_op op_mul (pv 3) pe_int) (pe_op op_mod (pe_callTy call_int1 (by rfl) T.b_int (by decide +kernel) (pa_cons (pv 5) pa_nil)) pe_int)) (pe_op op_mul pe_int (pv 4))) pa_nil)) pe_int))))
      (pss_one (ps_ret (pe_lst (pa_cons (pe_ifExp (pt_cmpR op_ge (pe_callB call_abs (by rfl) T.b_abs (by decide +kernel) (pa_cons (pv 2) pa_nil)) (pe_op op_pow pe_int pe_int) (nomark _)) (pe_callB call_abs (by rfl) T.b_abs (by decide +kernel) (pa_cons (pv 2) pa_nil)) pe_int) (pa_cons (pv 3) pa_nil)))))))), ?_⟩
    walk_at "rd"
    refine ite2 (fun c => ?_) (fun c => ?_)
    · walk_at "rd"
      have hi : i < ns.length := by
        have := of_decide_eq_true c
        rw [List.length_map] at this
        omega
      refine RD.ixL hS (at_of (j := i) rfl (by rw [List.getElem?_map, List.getElem?_eq_getElem hi]; rfl)) ?_
      walk_at "rd"
      refine ⟨a, _, rfl, hS, fun p np => ?_⟩
      walk_at "rd"
      refine ⟨p, _, rfl, SqL.of upd_same, ?_⟩
      refine for_it walk_enum (fun j σ H1 => ∃ (m : Int) (v4 v5 : Option V), σ = [some (.ref a), some (.int i), some (.int (ns[i])), some (.int m), v4, v5] ∧ Same H H1 ∧ H1 p = some (.lst (cutV (ns.map V.int) none (some 60))))
        ⟨_, none, none, rfl, Same.new (Same.refl H) np, upd_same⟩ (fun _ _ _ _ ⟨_, _, _, _, _, e⟩ => SqL.of e) ?_ ?_
      · rintro j v σ H1 H2 hj ⟨m, v4, v5, rfl, sm, hp⟩ ⟨T1, x, y, rfl, nT, rfl, ex, ey⟩
        obtain ⟨z, rfl⟩ := cut_int ey
        cases ex
        walk_at "rd"
        exact ⟨_, _, _, rfl, Same.new sm nT, by rw [upd_ne (ne_of_none hp nT)]; exact hp⟩
      · rintro σ H1 ⟨m, v4, v5, rfl, sm, hp⟩
        walk_at "rd"
        refine ite2 (fun c1 => ?_) (fun c1 => ?_)
        · walk_at "rd"
          exact ⟨by show 2 ≤ sizeLine; decide, fun q nq => k q _ (sm.free nq) ⟨_, _, upd_same⟩ (Same.new sm nq)⟩
        · walk_at "rd"
          exact ⟨by show 2 ≤ sizeLine; decide, fun q nq => k q _ (sm.free nq) ⟨_, _, upd_same⟩ (Same.new sm nq)⟩
    · walk_at "rd"
      refine ⟨a, _, rfl, hS, fun p np => ?_⟩
      walk_at "rd"
      refine ⟨p, _, rfl, SqL.of upd_same, ?_⟩
      refine for_it walk_enum (fun j σ H1 => ∃ (m : Int) (v4 v5 : Option V), σ = [some (.ref a), some (.int i), some (.int 0), some (.int m), v4, v5] ∧ Same H H1 ∧ H1 p = some (.lst (cutV (ns.map V.int) none (some 60))))
        ⟨_, none, none, rfl, Same.new (Same.refl H) np, upd_same⟩ (fun _ _ _ _ ⟨_, _, _, _, _, e⟩ => SqL.of e) ?_ ?_
      · rintro j v σ H1 H2 hj ⟨m, v4, v5, rfl, sm, hp⟩ ⟨T1, x, y, rfl, nT, rfl, ex, ey⟩
        obtain ⟨z, rfl⟩ := cut_int ey
        cases ex
        walk_at "rd"
        exact ⟨_, _, _, rfl, Same.new sm nT, by rw [upd_ne (ne_of_none hp nT)]; exact hp⟩
      · rintro σ H1 ⟨m, v4, v5, rfl, sm, hp⟩
        walk_at "rd"
        refine ite2 (fun c1 => ?_) (fun c1 => ?_)
        · walk_at "rd"
          exact ⟨by show 2 ≤ sizeLine; decide, fun q nq => k q _ (sm.free nq) ⟨_, _, upd_same⟩ (Same.new sm nq)⟩
        · walk_at "rd"
          exact ⟨by show 2 ≤ sizeLine; decide, fun q nq => k q _ (sm.free nq) ⟨_, _, upd_same⟩ (Same.new sm nq)⟩
end
end KK

namespace KK
open PySem PySem.Spec PyProof.Rows L2
/-! ### names -/
def Ltrs (z : Str) : Prop := ∀ c ∈ z.cps.toList, 97 ≤ c ∧ c ≤ 122
instance (z : Str) : Decidable (Ltrs z) := inferInstanceAs (Decidable (∀ c ∈ z.cps.toList, 97 ≤ c ∧ c ≤ 122))
structure NameOk (z : Str) : Prop where
  lo : 1 ≤ z.length
  hi : z.length ≤ 12
  ltr : Ltrs z
  nc : z ≠ "cash"
theorem len_app (x y : Str) : (x ++ y).length = x.length + y.length := by
  show (x.cps ++ y.cps).size = _
  rw [Array.size_append]
  rfl
theorem list_app (x y : Str) : (x ++ y).cps.toList = x.cps.toList ++ y.cps.toList := by
  show (x.cps ++ y.cps).toList = _
  rw [Array.toList_append]
theorem ltrs_app {x y : Str} (hx : Ltrs x) (hy : Ltrs y) : Ltrs (x ++ y) := fun c hc => by
  rw [list_app] at hc
  rcases List.mem_append.mp hc with h | h
  · exact hx c h
  · exact hy c h
theorem ltrs_one {c : Nat} (h : 97 ≤ c ∧ c ≤ 122) : Ltrs ⟨#[c]⟩ := fun d hd => by
  have : d = c := by simpa using hd
  subst this
  exact h
theorem ltrs_cut {z : Str} {lo hi : Option Int} (h : Ltrs z) : Ltrs (cutS z lo hi) := fun c hc => h c (List.mem_of_mem_drop (List.mem_of_mem_take (by simpa [cutS] using hc)))
theorem cut_lens (z : Str) {p : Nat} (h : p ≤ z.length) : (cutS z none (some (p : Int))).length + (cutS z (some (p : Int)) none).length = z.length := by
  show (List.toArray _).size + (List.toArray _).size = _
  simp only [List.size_toArray, HT.sIx_none, HT.sIx_nat, List.length_take, List.length_drop, Array.length_toList]
  have : z.cps.size = z.length := rfl
  omega
theorem str_ext {x y : Str} (h : x.cps.toList = y.cps.toList) : x = y := by
  cases x; cases y
  exact congrArg Str.mk (Array.toList_inj.mp h)
theorem not_cash_q (x : Str) : x ++ ("q" : Str) ≠ ("cash" : Str) := by
  intro e
  have e1 : (x ++ ("q" : Str)).cps.toList.getLast? = ("cash" : Str).cps.toList.getLast? := by rw [e]
  rw [list_app] at e1
  have e2 : ("q" : Str).cps.toList = [113] := by decide +kernel
  have e3 : ("cash" : Str).cps.toList.getLast? = some 104 := by decide +kernel
  rw [e2, e3, List.getLast?_concat] at e1
  cases e1
/-- a made name: the stem with a letter in it -/
def nameAt (A B : Str) (c : Nat) : Str := A ++ ⟨#[c]⟩ ++ B
theorem nameAt_len (A B : Str) (c : Nat) : (nameAt A B c).length = A.length + B.length + 1 := by
  unfold nameAt
  rw [len_app, len_app]
  show A.length + 1 + B.length = _
  omega
theorem nameAt_ltr {A B : Str} {c : Nat} (hA : Ltrs A) (hB : Ltrs B) (h : 97 ≤ c ∧ c ≤ 122) : Ltrs (nameAt A B c) := ltrs_app (ltrs_app hA (ltrs_one h)) hB
theorem nameAt_inj {A B : Str} {c d : Nat} (h : nameAt A B c = nameAt A B d) : c = d := by
  have e : (nameAt A B c).cps.toList = (nameAt A B d).cps.toList := by rw [h]
  unfold nameAt at e
  rw [list_app, list_app, list_app, list_app] at e
  have e1 := List.append_cancel_right e
  have e2 := List.append_cancel_left e1
  simpa using e2
theorem app_inj {x y z : Str} (h : x ++ z = y ++ z) : x = y := by
  have e : (x ++ z).cps.toList = (y ++ z).cps.toList := by rw [h]
  rw [list_app, list_app] at e
  exact str_ext (List.append_cancel_right e)
theorem nodup_map {α β : Type} {f : α → β} {l : List α} (hf : ∀ x y, f x = f y → x = y) (h : l.Nodup) : (l.map f).Nodup := by
  unfold List.Nodup at *
  rw [List.pairwise_map]
  exact h.imp fun n e => n (hf _ _ e)
def alpha : List Nat := [97, 98, 99, 100, 101, 102, 103, 104, 105, 106, 107, 108, 109, 110, 111, 112, 113, 114, 115, 116, 117, 118, 119, 120, 121, 122]
def ch (c : Nat) : V := .str ⟨#[c]⟩
theorem perm_erase {α : Type} : ∀ (l : List α) (j : Nat) (h : j < l.length), (l[j] :: l.eraseIdx j).Perm l
  | [], j, h => absurd h (Nat.not_lt_zero _)
  | x :: r, 0, _ => List.Perm.refl _
  | x :: r, j + 1, h => (List.Perm.swap x (r[j]'(Nat.lt_of_succ_lt_succ h)) _).trans ((perm_erase r j (Nat.lt_of_succ_lt_succ h)).cons x)
theorem erase_map {α β : Type} (f : α → β) : ∀ (l : List α) (j : Nat), (l.map f).eraseIdx j = (l.eraseIdx j).map f
  | [], _ => rfl
  | _ :: _, 0 => rfl
  | x :: r, j + 1 => congrArg (f x :: ·) (erase_map f r j)
theorem free_upd {H : Hp} {p q : Addr} {o : HO} (h : (upd H p o) q = none) : q ≠ p ∧ H q = none := by
  by_cases e : q = p
  · subst e
    rw [upd_same] at h
    cases h
  · rw [upd_ne e] at h
    exact ⟨e, h⟩
/-- what is taken and what is left of the alphabet -/
structure Left (cs ls : List Nat) : Prop where
  len : cs.length + ls.length = 26
  nd : (cs ++ ls).Nodup
  ltr : ∀ c ∈ cs ++ ls, 97 ≤ c ∧ c ≤ 122
theorem left0 : Left [] alpha := ⟨by decide, by decide, by decide⟩
theorem left_pop {cs ls : List Nat} (h : Left cs ls) {j : Nat} (hj : j < ls.length) : Left (cs ++ [ls[j]]) (ls.eraseIdx j) := by
  have pm : (cs ++ [ls[j]] ++ ls.eraseIdx j).Perm (cs ++ ls) := by
    rw [List.append_assoc]
    exact (perm_erase ls j hj).append_left cs
  refine ⟨?_, pm.nodup_iff.mpr h.nd, fun c hc => h.ltr c (pm.mem_iff.mp hc)⟩
  have := h.len
  rw [List.length_append, List.length_eraseIdx_of_lt hj]
  simp only [List.length_cons, List.length_nil]
  omega
def spNames : Sp := fun vs H Q _ => ∃ (b : Addr) (m : Nat), vs = [.ref b, .int (m : Int)] ∧ Bag H b ∧ m ≤ 26 ∧ ∀ (l : Addr) (xs : List Str) (H' : Hp), xs.length = m → (∀ z ∈ xs, NameOk z) → xs.Nodup → H l = none → l ≠ b → H' l = some (.lst (xs.map V.str)) → Ext b H H' → Q (.ref l) H'
section
variable {P : Program} {w : World} {K : PySem.W.Frag} {mg : Str → Option Value} {base : Heap}
abbrev s_names : Stmt := top 21
theorem sc_names : FnScope ["bag", "many", "left", "found", "stem", "turn", "place", "one"] ["bag", "many"] (defScope s_names) := ⟨rfl, rfl, rfl, by decide +kernel, rfl, by decide +kernel, by decide +kernel⟩
theorem ok_names {f : Addr} {fd : FuncData} (F : Fun K "_law_names" "_law_names" s_names f fd) (T : TxtB mg) (D_take : Def P w K mg base "_law_take" 1 ["bag", "many"] spTake) (D_of : Def P w K mg base "_law_of" 2 ["bag", "some"] spOf) : FnOk P w K mg base CX0 3 f fd ["bag", "many"] spNames := by
  refine F.ok sc_names (fun vs H Q E h => ?_) (fun cdv A outer s H vs Q E hr h => ?_)
  · obtain ⟨b, m, rfl, _⟩ := h
    rfl
  · obtain ⟨b, m, rfl, hb, hm, k⟩ := h
    refine ⟨_, (pss_cons (ps_par3 (i := 2) (j := 3) (l := 4) (by rfl) sc_names.nd rfl rfl rfl (by decide) (by decide) (by decide) rfl rfl rfl (pa_cons (pe_callTy (call_listS (by rfl)) (by rfl) T.b_list (by decide +kernel) (pa_cons pe_str pa_nil)) (pa_cons (pe_lst pa_nil) (pa_cons pe_str pa_nil))) (by rfl))
      (pss_cons (ps_for PassesOwn.never rfl (pi_range1 (by rfl) T.b_range (pa_cons (pe_call D_take.ok (hr.mono (by decide)) (by rfl) D_take.mg D_take.kp D_take.b .nil pass0 (pa_cons (pv 0) (pa_cons pe_int pa_nil))) pa_nil)) (pg_name (i := 5) sc_names.nd rfl (.inl rfl))
      (pss_one (ps_set (i := 4) sc_names.nd rfl (.inl rfl) (pe_op op_add_str (pv 4) (pe_call D_of.ok (hr.mono (by decide)) (by rfl) D_of.mg D_of.kp D_of.b .nil pass0 (pa_cons (pv 0) (pa_cons (pe_lst (pa_cons pe_str (pa_cons pe_str (pa_cons pe_str (pa_cons pe_str (pa_cons pe_str pa_nil)))))) pa_nil)))))))
      (pss_cons (ps_set (i := 6) sc_names.nd rfl (.inl rfl) (pe_call D_take.ok (hr.mono (by decide)) (by rfl) D_take.mg D_take.kp D_take.b .nil pass0 (pa_cons (pv 0) (pa_cons (pe_op op_add (pe_callB call_len_str (by rfl) T.b_len (by decide +kernel) (pa_cons (pv 4) pa_nil)) pe_int) pa_nil))))
      (pss_cons (ps_for PassesOwn.never rfl (pi_range1 (by rfl) T.b_range (pa_cons (pv 1) pa_nil)) (pg_name (i := 5) sc_names.nd rfl (.inl rfl))
      (pss_one (ps_expr (pe_bm PySem.F.plainAttrs_list PySem.F.slot_list_append PySem.F.type_list_append mt_append (pv 3) (pa_cons (pe_op op_add_str (pe_op op_add_str (pe_slice sl_str (pv 4) po_none (po_some (pv 6))) (pe_bm PySem.F.plainAttrs_list PySem.F.slot_list_pop PySem.F.type_list_pop mt_popAt (pv 2) (pa_cons (pe_call D_take.ok (hr.mono (by decide)) (by rfl) D_take.mg D_take.kp D_take.b .nil pass0 (pa_cons (pv 0) (pa_cons (pe_callB call_len_seq (by rfl) T.b_len (by decide +kernel) (pa_cons (pv 2) pa_nil)) pa_nil))) pa_nil))) (pe_slice sl_str (pv 4) (po_some (pv 6)) po_none)) pa_nil)))))
      (pss_one (ps_ret (pe_ifExp (pt_cmpR op_in_seq pe_str (pv 3) rfl) (pe_lc (own := [("one", 7)]) (g := gName 7) (by rfl) sc_names.nd (pi_list (pv 3)) (blkOk_by (own := [("one", 7)]) (N := ["bag", "many", "left", "found", "stem", "turn", "place", "one"]) (sc := defScope s_names) (by decide +kernel)) (fun _ _ _ _ _ => (pg_name (i := 7) sc_names.nd rfl (.inl rfl))) (fun _ _ _ _ _ => pts_nil) (fun _ _ _ _ _ => (pe_op op_add_str (pv 7) pe_str))) (pv 3)))))))), ?_⟩
    walk_at "rd"
    refine ⟨by decide +kernel, fun L nL => ?_⟩
    walk_at "rd"
    refine ⟨Nat.zero_le _, fun G nG => ?_⟩
    obtain ⟨nGL, nG0⟩ := free_upd nG
    have nLb : L ≠ b := ne_bag hb nL
    have nGb : G ≠ b := ne_bag hb nG0
    have ea : Ext b H (upd H L (.lst ((Str.ofString "abcdefghijklmnopqrstuvwxyz").cps.toList.map fun c => V.str ⟨#[c]⟩))) := ext_new hb nL
    have eb := ea.trans (ext_new (o := .lst []) ea.1 nG)
    have hL0 : (upd (upd H L (.lst ((Str.ofString "abcdefghijklmnopqrstuvwxyz").cps.toList.map fun c => V.str ⟨#[c]⟩))) G (.lst [])) L = some (.lst (alpha.map ch)) := by
      rw [upd_ne nGL.symm, upd_same]
      have : (Str.ofString "abcdefghijklmnopqrstuvwxyz").cps.toList = alpha := by decide +kernel
      rw [this]
      rfl
    have hG0 : (upd (upd H L (.lst ((Str.ofString "abcdefghijklmnopqrstuvwxyz").cps.toList.map fun c => V.str ⟨#[c]⟩))) G (.lst [])) G = some (.lst []) := upd_same
    revert eb hL0 hG0
    generalize upd (upd H L (.lst ((Str.ofString "abcdefghijklmnopqrstuvwxyz").cps.toList.map fun c => V.str ⟨#[c]⟩))) G (.lst []) = H2
    intro eb hL0 hG0
    walk_at "rd"
    refine ⟨_, _, _, rfl, ?_⟩
    walk_at "rd"
    refine ⟨b, _, rfl, eb.1, by decide, by decide, fun n H3 n0 n1 e3 => ?_⟩
    walk_at "rd"
    refine ⟨by omega, by omega, ?_⟩
    have hL3 := e3.2 _ _ hL0 nLb
    have hG3 := e3.2 _ _ hG0 nGb
    refine for_range (lo := 0) (n := n.toNat) (fun i σ H4 => ∃ (z : Str) (v5 : Option V), σ = [some (.ref b), some (.int m), some (.ref L), some (.ref G), some (.str z), v5, none, none] ∧ z.length = i ∧ Ltrs z ∧ Ext b H H4 ∧ H4 L = some (.lst (alpha.map ch)) ∧ H4 G = some (.lst []))
      ⟨_, none, rfl, by decide +kernel, by decide +kernel, eb.trans e3, hL3, hG3⟩ ?_ ?_
    · rintro i σ H4 hi ⟨z, v5, rfl, lz, tz, e4, hL, hG⟩
      walk_at "rd"
      refine ⟨by show 5 ≤ sizeLine; decide, fun p np => ?_⟩
      walk_at "rd"
      refine ⟨b, p, _, rfl, (ext_new e4.1 np).1, upd_same, ne_bag e4.1 np, by decide, by decide, fun v H5 hv e5 => ?_⟩
      have e45 := (ext_new (o := .lst [V.str "a", V.str "z", V.str "s", V.str "h", V.str "m"]) e4.1 np).trans e5
      obtain ⟨y, rfl, ly, ty⟩ : ∃ y : Str, v = .str y ∧ y.length = 1 ∧ Ltrs y := by
        simp only [List.mem_cons, List.not_mem_nil, or_false] at hv
        rcases hv with rfl | rfl | rfl | rfl | rfl
        all_goals exact ⟨_, rfl, by decide +kernel, by decide +kernel⟩
      refine ⟨_, _, rfl, rfl, Nat.le_trans (show z.length + y.length ≤ 1000 by omega) (by decide), ?_⟩
      walk_at "rd"
      exact ⟨_, _, rfl, by rw [len_app]; omega, ltrs_app tz ty, e4.trans e45, e45.2 _ _ hL nLb, e45.2 _ _ hG nGb⟩
    · rintro σ H4 ⟨z, v5, rfl, lz, tz, e4, hL, hG⟩
      walk_at "rd"
      refine ⟨Nat.le_trans (show z.length ≤ 1000 by omega) (by decide), ?_⟩
      walk_at "rd"
      refine ⟨b, _, rfl, e4.1, by omega, by omega, fun q H5 q0 q1 e5 => ?_⟩
      obtain ⟨p, rfl⟩ : ∃ p : Nat, q = (p : Int) := ⟨q.toNat, by omega⟩
      have hp : p ≤ z.length := by omega
      have hL5 := e5.2 _ _ hL nLb
      have hG5 := e5.2 _ _ hG nGb
      have hAB := cut_lens z hp
      have tA : Ltrs (cutS z none (some (p : Int))) := ltrs_cut tz
      have tB : Ltrs (cutS z (some (p : Int)) none) := ltrs_cut tz
      walk_at "rd"
      refine ⟨by omega, by omega, ?_⟩
      refine for_range (lo := 0) (n := m) (fun i σ H6 => ∃ (cs ls : List Nat) (v5 : Option V), σ = [some (.ref b), some (.int m), some (.ref L), some (.ref G), some (.str z), v5, some (.int p), none] ∧ cs.length = i ∧ Left cs ls ∧ Ext b H H6 ∧ H6 L = some (.lst (ls.map ch)) ∧ H6 G = some (.lst ((cs.map (nameAt (cutS z none (some (p : Int))) (cutS z (some (p : Int)) none))).map V.str)))
        ⟨[], alpha, _, rfl, rfl, left0, e4.trans e5, hL5, hG5⟩ ?_ ?_
      · rintro i σ H6 hi ⟨cs, ls, v5, rfl, lcs, lf, e6, hL6, hG6⟩
        have hls : ls.length = 26 - i := by have := lf.len; omega
        walk_at "rd"
        refine ⟨b, _, rfl, e6.1, by rw [List.length_map]; omega, by rw [List.length_map]; omega, fun j H7 j0 j1 e7 => ?_⟩
        rw [List.length_map] at j1
        have hj : j.toNat < ls.length := by omega
        have hL7 := e7.2 _ _ hL6 nLb
        have hG7 := e7.2 _ _ hG6 nGb
        refine ⟨L, _, j, j.toNat, ch ls[j.toNat], rfl, rfl, hL7, by omega, by omega, ?_, ?_, ?_⟩
        · rw [List.length_map]
          exact (ixN_seq (show ixN ls.length j = some j.toNat by unfold ixN; rw [if_pos j0, if_pos (by omega)])).1
        · rw [List.getElem?_map, List.getElem?_eq_getElem hj]
          rfl
        have e8 : Ext b H (upd H7 L (.lst ((ls.map ch).eraseIdx j.toNat))) := ext_set (e6.trans e7) nLb nL
        have hG8 : (upd H7 L (.lst ((ls.map ch).eraseIdx j.toNat))) G = some (.lst ((cs.map (nameAt (cutS z none (some (p : Int))) (cutS z (some (p : Int)) none))).map V.str)) := by
          rw [upd_ne nGL]
          exact hG7
        refine ⟨_, _, rfl, rfl, Nat.le_trans (show _ + 1 ≤ 1000 by omega) (by decide), ?_⟩
        walk_at "rd"
        refine ⟨_, _, rfl, rfl, Nat.le_trans (show _ ≤ 1000 by rw [len_app]; show _ + 1 + _ ≤ _; omega) (by decide), ?_⟩
        walk_at "rd"
        refine ⟨cs ++ [ls[j.toNat]], ls.eraseIdx j.toNat, _, rfl, by rw [List.length_append]; simp [lcs], left_pop lf hj, ext_set e8 nGb nG0, ?_, ?_⟩
        · rw [upd_ne nGL.symm, upd_same, erase_map]
        · rw [upd_same, List.map_append, List.map_append]
          rfl
      · rintro σ H6 ⟨cs, ls, v5, rfl, lcs, lf, e6, hL6, hG6⟩
        have hc : ∀ y ∈ cs.map (nameAt (cutS z none (some (p : Int))) (cutS z (some (p : Int)) none)), y.length = z.length + 1 ∧ Ltrs y := fun y hy => by
          obtain ⟨c, hc, rfl⟩ := List.mem_map.mp hy
          refine ⟨by rw [nameAt_len]; omega, nameAt_ltr tA tB (lf.ltr c (List.mem_append_left _ hc))⟩
        have hn : (cs.map (nameAt (cutS z none (some (p : Int))) (cutS z (some (p : Int)) none))).Nodup := nodup_map (fun _ _ => nameAt_inj) (List.nodup_append.mp lf.nd).1
        have hlen : (cs.map (nameAt (cutS z none (some (p : Int))) (cutS z (some (p : Int)) none))).length = m := by rw [List.length_map]; exact lcs
        revert hc hn hlen hG6
        generalize cs.map (nameAt (cutS z none (some (p : Int))) (cutS z (some (p : Int)) none)) = xs
        intro hG6 hc hn hlen
        walk_at "rd"
        refine ⟨G, _, rfl, .inl (SqL.of hG6), rfl, ?_, ?_⟩
        · rw [List.all_map]
          exact List.all_eq_true.mpr fun _ _ => rfl
        walk_at "rd"
        refine ite2 (fun c => ?_) (fun c => ?_)
        · walk_at "rd"
          refine ⟨⟨_, SqL.of hG6⟩, fun D nD => ?_⟩
          have nDb : D ≠ b := ne_bag e6.1 nD
          have nDG : D ≠ G := (ne_of_none hG6 nD).symm
          have nD0 : H D = none := by
            cases q : H D with
            | none => rfl
            | some o => rw [e6.2 _ _ q nDb] at nD; cases nD
          refine lc_it walk_list (fun i H7 => Ext b H H7 ∧ H7 G = some (.lst (xs.map V.str)) ∧ H7 D = some (.lst ((xs.take i).map fun y => V.str (y ++ ("q" : Str)))))
            ⟨e6.trans (ext_new e6.1 nD), by rw [upd_ne nDG.symm]; exact hG6, upd_same⟩ (fun _ _ _ h => SqL.of h.2.1) ?_ ?_
          · rintro i x H7 H8 hi ⟨e7, hG7, hD7⟩ ⟨rfl, hx⟩
            rw [List.length_map] at hi
            have hxi : x = .str xs[i] := by
              rw [List.getElem?_map, List.getElem?_eq_getElem hi] at hx
              exact (Option.some.inj hx).symm
            subst hxi
            obtain ⟨l1, t1⟩ := hc _ (List.getElem_mem hi)
            walk_at "rd"
            refine ⟨rfl, ?_⟩
            walk_at "rd"
            refine ⟨_, hD7, Nat.lt_of_le_of_lt (show _ ≤ 1000 by rw [List.length_map, List.length_take]; omega) (by decide), ext_set e7 nDb nD0, by rw [upd_ne nDG.symm]; exact hG7, ?_⟩
            rw [upd_same, List.take_add_one, List.getElem?_eq_getElem hi, List.map_append]
            rfl
          · rintro H7 ⟨e7, hG7, hD7⟩
            rw [List.length_map, List.take_length] at hD7
            refine k D (xs.map fun y => y ++ ("q" : Str)) H7 (by rw [List.length_map]; exact hlen) (fun y hy => ?_) (nodup_map (fun _ _ => app_inj) hn) nD0 nDb (by rw [hD7, List.map_map]; rfl) e7
            obtain ⟨x, hx, rfl⟩ := List.mem_map.mp hy
            obtain ⟨l1, t1⟩ := hc x hx
            have lq : ("q" : Str).length = 1 := by decide +kernel
            exact ⟨by rw [len_app]; omega, by rw [len_app]; omega, ltrs_app t1 (by decide +kernel), not_cash_q x⟩
        · walk_at "rd"
          refine k G xs H6 hlen (fun y hy => ?_) hn nG0 nGb hG6 e6
          obtain ⟨l1, t1⟩ := hc y hy
          refine ⟨by omega, by omega, t1, fun e => c ?_⟩
          subst e
          refine List.any_eq_true.mpr ⟨.str "cash", List.mem_map.mpr ⟨_, hy, rfl⟩, ?_⟩
          decide +kernel
end
end KK

namespace KK
open PySem PySem.Spec PyProof.Rows L2
/-! ### an order's attributes -/
structure OD where
  m : Str
  t : Str
  s : Str
  c : Int
  l : Int
def ofl (o : OD) : List (Str × V) := putF "limit" (.int o.l) (putF "count" (.int o.c) (putF "side" (.str o.s) (putF "thing" (.str o.t) (putF "member" (.str o.m) []))))
theorem n_ml : ¬ (("member" : Str) = "limit") := by decide +kernel
theorem n_mc : ¬ (("member" : Str) = "count") := by decide +kernel
theorem n_ms : ¬ (("member" : Str) = "side") := by decide +kernel
theorem n_mt : ¬ (("member" : Str) = "thing") := by decide +kernel
theorem n_tl : ¬ (("thing" : Str) = "limit") := by decide +kernel
theorem n_tc : ¬ (("thing" : Str) = "count") := by decide +kernel
theorem n_ts : ¬ (("thing" : Str) = "side") := by decide +kernel
theorem n_sl : ¬ (("side" : Str) = "limit") := by decide +kernel
theorem n_sc : ¬ (("side" : Str) = "count") := by decide +kernel
theorem n_cl : ¬ (("count" : Str) = "limit") := by decide +kernel
theorem fl_m (o : OD) : (ofl o).lookup ("member" : Str) = some (.str o.m) := by
  unfold ofl
  rw [lookup_putF, if_neg n_ml, lookup_putF, if_neg n_mc, lookup_putF, if_neg n_ms, lookup_putF, if_neg n_mt, lookup_putF, if_pos rfl]
theorem fl_t (o : OD) : (ofl o).lookup ("thing" : Str) = some (.str o.t) := by
  unfold ofl
  rw [lookup_putF, if_neg n_tl, lookup_putF, if_neg n_tc, lookup_putF, if_neg n_ts, lookup_putF, if_pos rfl]
theorem fl_s (o : OD) : (ofl o).lookup ("side" : Str) = some (.str o.s) := by
  unfold ofl
  rw [lookup_putF, if_neg n_sl, lookup_putF, if_neg n_sc, lookup_putF, if_pos rfl]
theorem fl_c (o : OD) : (ofl o).lookup ("count" : Str) = some (.int o.c) := by
  unfold ofl
  rw [lookup_putF, if_neg n_cl, lookup_putF, if_pos rfl]
theorem fl_l (o : OD) : (ofl o).lookup ("limit" : Str) = some (.int o.l) := by
  unfold ofl
  rw [lookup_putF, if_pos rfl]
local macro_rules
  | `(tactic| walk_at "rd_f") => `(tactic| first | exact KK.fl_m _ | exact KK.fl_t _ | exact KK.fl_s _ | exact KK.fl_c _ | exact KK.fl_l _)
theorem mem_alpha {c : Nat} : c ∈ (Str.ofString "abcdefghijklmnopqrstuvwxyz").cps.toList ↔ 97 ≤ c ∧ c ≤ 122 := by
  have : (Str.ofString "abcdefghijklmnopqrstuvwxyz").cps.toList = alpha := by decide +kernel
  rw [this]
  simp only [alpha, List.mem_cons, List.not_mem_nil, or_false]
  omega
/-! ### promises -/
def isNm (z : Str) : Bool := decide (1 ≤ z.length ∧ z.length ≤ 12 ∧ Ltrs z)
def isTh (z : Str) : Bool := isNm z && decide (z ≠ "cash")
def spIsName : Sp := fun vs H Q _ => ∃ z : Str, vs = [.str z] ∧ z.length ≤ 1000 ∧ ∀ H', Same H H' → Q (.bl (isNm z)) H'
def spIsThing : Sp := fun vs H Q _ => ∃ z : Str, vs = [.str z] ∧ z.length ≤ 1000 ∧ ∀ H', Same H H' → Q (.bl (isTh z)) H'
def spIsInt : Sp := fun vs H Q _ => ∃ z : Int, vs = [.int z] ∧ Q (.bl true) H
def spWhole : Sp := fun vs H Q _ => ∃ z lo hi : Int, vs = [.int z, .int lo, .int hi] ∧ Q (.bl (decide (lo ≤ z ∧ z ≤ hi))) H
structure ODok (o : OD) : Prop where
  m : isNm o.m = true
  t : isTh o.t = true
  s : o.s = "buy" ∨ o.s = "sell"
  c0 : 1 ≤ o.c
  c1 : o.c ≤ 1000000
  l0 : -1000000000000 ≤ o.l
  l1 : o.l ≤ 1000000000000
def spInit (C : Addr) : Sp := fun vs H Q _ => ∃ (p dx : Addr) (o : OD), vs = [.ref p, .str o.m, .str o.t, .str o.s, .int o.c, .int o.l] ∧ H p = some (.ins C dx []) ∧ ODok o ∧ ∀ H', (∀ b u, H b = some u → b ≠ p → H' b = some u) → H' p = some (.ins C dx (ofl o)) → Q .non H'
def sgn (s : Str) : Int := if s = "buy" then 1 else -1
def spSign (C : Addr) : Sp := fun vs H Q _ => ∃ (p dx : Addr) (o : OD), vs = [.ref p] ∧ H p = some (.ins C dx (ofl o)) ∧ Q (.int (sgn o.s)) H
def meetB (o q : OD) : Bool := if o.m = q.m ∨ o.t ≠ q.t ∨ o.s = q.s then false else decide (0 ≤ sgn o.s * o.l + sgn q.s * q.l)
def spMeets (C : Addr) : Sp := fun vs H Q _ => ∃ (p q dx dy : Addr) (o u : OD), vs = [.ref p, .ref q] ∧ H p = some (.ins C dx (ofl o)) ∧ H q = some (.ins C dy (ofl u)) ∧ Q (.bl (meetB o u)) H
def oRow (o : OD) : List V := [.str o.m, .str o.t, .str o.s, .int o.c, .int o.l]
def dueB (o q : OD) : Bool := if o.m = q.m ∨ o.t ≠ q.t then false else if o.s = "buy" ∧ q.s = "sell" then decide (q.l ≤ o.l) else if o.s = "sell" ∧ q.s = "buy" then decide (o.l ≤ q.l) else false
def spDue : Sp := fun vs H Q _ => ∃ (p q : Addr) (o u : OD), vs = [.ref p, .ref q] ∧ H p = some (.lst (oRow o)) ∧ H q = some (.lst (oRow u)) ∧ Q (.bl (dueB o u)) H
def spRow : Sp := fun vs H Q _ => ∃ (b M N : Addr) (ms ts : List Str) (base : Int), vs = [.ref b, .ref M, .ref N, .int base] ∧ Bag H b ∧ H M = some (.lst (ms.map V.str)) ∧ H N = some (.lst (ts.map V.str)) ∧ M ≠ b ∧ N ≠ b ∧ 0 < ms.length ∧ ms.length < 1000 ∧ 0 < ts.length ∧ ts.length < 1000 ∧
  ∀ (p : Addr) (o : OD) (H' : Hp), o.m ∈ ms → o.t ∈ ts → (o.s = "buy" ∨ o.s = "sell") → 1 ≤ o.c → o.c ≤ 1000000 → base - 100000000000 ≤ o.l → o.l ≤ base + 100000000000 → H p = none → p ≠ b → H' p = some (.lst (oRow o)) → Ext b H H' → Q (.ref p) H'
structure TxtO (K : PySem.W.Frag) (mg : Str → Option Value) (C : Addr) : Prop where
  b_int : mg "int" = none
  b_bool : mg "bool" = none
  b_str : mg "str" = none
  b_len : mg "len" = none
  b_all : mg "all" = none
  b_isinstance : mg "isinstance" = none
  k_MOST : ∃ t, mg "MOST" = some (.int 1000000000000 t)
  k_MOST_COUNT : ∃ t, mg "MOST_COUNT" = some (.int 1000000 t)
  k__CASH : ∃ t, mg "_CASH" = some (.str "cash" t)
  k__LETTERS : ∃ t, mg "_LETTERS" = some (.str "abcdefghijklmnopqrstuvwxyz" t)
  k__LONGEST_NAME : ∃ t, mg "_LONGEST_NAME" = some (.int 12 t)
  c_Order : mg "Order" = some (.ref C)
  cl_Order : Cls K C
  na : ∀ f ∈ (["member", "thing", "side", "count", "limit"] : List Str), NoAttr K C f
  rd : ∃ mc, ClX.CRead K C mc ∧ (∃ u, ClX.CVal K C mc "BUY" (.str "buy") u) ∧ ∃ u, ClX.CVal K C mc "SELL" (.str "sell") u
structure PDef (P : Program) (w : World) (K : PySem.W.Frag) (mg : Str → Option Value) (base : Heap) (C : Addr) (x : Str) (k : Nat) (sp : Sp) where
  p : Addr
  f : Addr
  fd : FuncData
  po : PropOf K C x p f
  ok : FnOk P w K mg base CX0 k f fd ["self"] sp
  b : Binds K fd ["self"] []
section
variable {P : Program} {w : World} {K : PySem.W.Frag} {mg : Str → Option Value} {base : Heap} {C : Addr}
abbrev s_isname : Stmt := top 12
theorem sc_isname : FnScope ["thing", "letter"] ["thing"] (defScope s_isname) := ⟨rfl, rfl, rfl, by decide +kernel, rfl, by decide +kernel, by decide +kernel⟩
theorem ok_isname {f : Addr} {fd : FuncData} (F : Fun K "is_name" "is_name" s_isname f fd) (T : TxtO K mg C) : FnOk P w K mg base CX0 1 f fd ["thing"] spIsName := by
  refine F.ok sc_isname (fun vs H Q E h => ?_) (fun cdv A outer s H vs Q E hr h => ?_)
  · obtain ⟨z, rfl, _⟩ := h
    rfl
  · obtain ⟨z, rfl, lz, k⟩ := h
    obtain ⟨_, k__LETTERS⟩ := T.k__LETTERS
    obtain ⟨_, k__LONGEST_NAME⟩ := T.k__LONGEST_NAME
    refine ⟨_, (pss_cons (ps_if (PW.pt (pw_or (pt_not (pt_val (pe_callB call_isi (by rfl) T.b_isinstance (by decide +kernel) (pa_cons (pv 0) (pa_cons (pe_bltn (v := .ty "str") (by rfl) T.b_str (by decide +kernel) rfl) pa_nil))))) (pw_or1 (pt_not (pt_chain op_le op_le pe_int (pe_callB call_len_str (by rfl) T.b_len (by decide +kernel) (pa_cons (pv 0) pa_nil)) (pe_glob (v := (.int 12)) rfl k__LONGEST_NAME ⟨_, rfl⟩)))))) (pss_one (ps_ret pe_bl)) pss_nil)
      (pss_one (ps_ret (pe_callB (cr_all rfl) (by rfl) T.b_all (by decide +kernel) (pa_cons (pe_lc (own := [("letter", 1)]) (g := gName 1) (by rfl) sc_isname.nd (pi_str (pv 0)) (blkOk_by (own := [("letter", 1)]) (N := ["thing", "letter"]) (sc := defScope s_isname) (by decide +kernel)) (fun _ _ _ _ _ => (pg_name (i := 1) sc_isname.nd rfl (.inl rfl))) (fun _ _ _ _ _ => pts_nil) (fun _ _ _ _ _ => (pe_cmpR op_in_sign (pv 1) (pe_glob (v := (.str "abcdefghijklmnopqrstuvwxyz")) rfl k__LETTERS ⟨_, rfl⟩) rfl))) pa_nil))))), ?_⟩
    walk_at "rd"
    refine ⟨_, _, _, _, true, rfl, .ty _, .base (.str z), kit_ty (by decide +kernel), ?_⟩
    walk_at "rd"
    have lz' : z.length ≤ sizeLine := Nat.le_trans lz (by decide)
    refine ⟨lz', ?_⟩
    walk_at "rd"
    refine ite2 (fun c1 => ?_) (fun c1 => ?_)
    · walk_at "rd"
      refine ite2 (fun c2 => ?_) (fun c2 => ?_)
      · walk_at "rd"
        have q := k H (Same.refl H)
        rwa [show isNm z = false from decide_eq_false (by simp at c1 c2; omega)] at q
      · walk_at "rd"
        intro D nD
        have nm : isNm z = decide (Ltrs z) := by
          unfold isNm
          simp at c1 c2
          simp [show 1 ≤ z.length by omega, show z.length ≤ 12 by omega]
        refine lc_it walk_str (fun i H1 => Same H H1 ∧ H1 D = some (.lst ((z.cps.toList.take i).map fun c => V.bl (decide (c ∈ (Str.ofString "abcdefghijklmnopqrstuvwxyz").cps.toList)))))
          ⟨Same.new (Same.refl H) nD, upd_same⟩ (fun _ _ _ _ => True.intro) ?_ ?_
        · rintro i x H1 H2 hi ⟨s1, e1⟩ ⟨rfl, c, hc, rfl⟩
          walk_at "rd"
          refine ⟨rfl, ?_⟩
          walk_at "rd"
          refine ⟨c, _, rfl, rfl, _, e1, Nat.lt_of_le_of_lt (show _ ≤ 1000 by rw [List.length_map, List.length_take, Array.length_toList]; have : z.cps.size = z.length := rfl; omega) (by decide), fun b o e => ?_, ?_⟩
          · rw [upd_ne (ne_of_none e nD)]
            exact s1 _ _ e
          · have hc' : z.cps.toList[i]? = some c := by simpa using hc
            rw [upd_same, List.take_add_one, hc', List.map_append]
            rfl
        · rintro H1 ⟨s1, e1⟩
          rw [show z.cps.size = z.cps.toList.length by simp, List.take_length] at e1
          refine RD.allB (bs := z.cps.toList.map fun c => decide (c ∈ (Str.ofString "abcdefghijklmnopqrstuvwxyz").cps.toList)) (SqL.of (by rw [e1, List.map_map]; rfl)) ?_
          have q := k H1 s1
          rw [nm] at q
          rwa [show (z.cps.toList.map fun c => decide (c ∈ (Str.ofString "abcdefghijklmnopqrstuvwxyz").cps.toList)).all id = decide (Ltrs z) from by
            rw [Bool.eq_iff_iff]
            simp only [List.all_map, List.all_eq_true, decide_eq_true_eq, Function.comp_apply, id_eq]
            exact ⟨fun h c hc => mem_alpha.mp (by simpa using h c hc), fun h c hc => by simpa using mem_alpha.mpr (h c hc)⟩]
    · walk_at "rd"
      have q := k H (Same.refl H)
      rwa [show isNm z = false from decide_eq_false (by simp at c1; omega)] at q
abbrev s_isthing : Stmt := top 13
theorem sc_isthing : FnScope ["thing"] ["thing"] (defScope s_isthing) := ⟨rfl, rfl, rfl, by decide +kernel, rfl, by decide +kernel, by decide +kernel⟩
theorem ok_isthing {f : Addr} {fd : FuncData} (F : Fun K "is_thing_name" "is_thing_name" s_isthing f fd) (T : TxtO K mg C) (D_isname : Def P w K mg base "is_name" 1 ["thing"] spIsName) : FnOk P w K mg base CX0 2 f fd ["thing"] spIsThing := by
  refine F.ok sc_isthing (fun vs H Q E h => ?_) (fun cdv A outer s H vs Q E hr h => ?_)
  · obtain ⟨z, rfl, _⟩ := h
    rfl
  · obtain ⟨z, rfl, lz, k⟩ := h
    obtain ⟨_, k__CASH⟩ := T.k__CASH
    refine ⟨_, (pss_one (ps_ret (pe_and (pe_call D_isname.ok (hr.mono (by decide)) (by rfl) D_isname.mg D_isname.kp D_isname.b .nil pass0 (pa_cons (pv 0) pa_nil)) (pe_one (pe_cmpR op_ne (pv 0) (pe_glob (v := (.str "cash")) rfl k__CASH ⟨_, rfl⟩) (nomark _)))))), ?_⟩
    walk_at "rd"
    refine ⟨z, rfl, lz, fun H1 s1 => ?_⟩
    walk_at "rd"
    refine ite2 (fun c => ?_) (fun c => ?_)
    · walk_at "rd"
      have q := k H1 s1
      unfold isTh at q
      rw [c, Bool.true_and] at q
      rwa [show (!decide (V.str z = V.str (Str.ofString "cash"))) = decide (z ≠ Str.ofString "cash") from by simp]
    · have q := k H1 s1
      unfold isTh at q
      rw [Bool.eq_false_iff.mpr c, Bool.false_and] at q
      exact q
abbrev s_isint : Stmt := top 10
theorem sc_isint : FnScope ["thing"] ["thing"] (defScope s_isint) := ⟨rfl, rfl, rfl, by decide +kernel, rfl, by decide +kernel, by decide +kernel⟩
theorem ok_isint {f : Addr} {fd : FuncData} (F : Fun K "is_integer" "is_integer" s_isint f fd) (T : TxtO K mg C) : FnOk P w K mg base CX0 1 f fd ["thing"] spIsInt := by
  refine F.ok sc_isint (fun vs H Q E h => ?_) (fun cdv A outer s H vs Q E hr h => ?_)
  · obtain ⟨z, rfl, _⟩ := h
    rfl
  · obtain ⟨z, rfl, k⟩ := h
    refine ⟨_, (pss_one (ps_ret (pe_and (pe_callB call_isi (by rfl) T.b_isinstance (by decide +kernel) (pa_cons (pv 0) (pa_cons (pe_bltn (v := .ty "int") (by rfl) T.b_int (by decide +kernel) rfl) pa_nil))) (pe_one (pe_not (pe_callB call_isi (by rfl) T.b_isinstance (by decide +kernel) (pa_cons (pv 0) (pa_cons (pe_bltn (v := .ty "bool") (by rfl) T.b_bool (by decide +kernel) rfl) pa_nil)))))))), ?_⟩
    walk_at "rd"
    refine ⟨_, _, _, _, true, rfl, .ty _, .base (.int z), kit_ty (by decide +kernel), ?_⟩
    walk_at "rd"
    refine ⟨_, _, _, _, false, rfl, .ty _, .base (.int z), kit_ty (by decide +kernel), ?_⟩
    walk_at "rd"
    exact k
abbrev s_whole : Stmt := top 11
theorem sc_whole : FnScope ["thing", "low", "high"] ["thing", "low", "high"] (defScope s_whole) := ⟨rfl, rfl, rfl, by decide +kernel, rfl, by decide +kernel, by decide +kernel⟩
theorem ok_whole {f : Addr} {fd : FuncData} (F : Fun K "is_whole" "is_whole" s_whole f fd) (T : TxtO K mg C) (D_isint : Def P w K mg base "is_integer" 1 ["thing"] spIsInt) : FnOk P w K mg base CX0 2 f fd ["thing", "low", "high"] spWhole := by
  refine F.ok sc_whole (fun vs H Q E h => ?_) (fun cdv A outer s H vs Q E hr h => ?_)
  · obtain ⟨z, lo, hi, rfl, _⟩ := h
    rfl
  · obtain ⟨z, lo, hi, rfl, k⟩ := h
    refine ⟨_, (pss_one (ps_ret (pe_and (pe_call D_isint.ok (hr.mono (by decide)) (by rfl) D_isint.mg D_isint.kp D_isint.b .nil pass0 (pa_cons (pv 0) pa_nil)) (pe_one (pe_chain op_le op_le (pv 1) (pv 0) (pv 2)))))), ?_⟩
    walk_at "rd"
    refine ⟨z, rfl, ?_⟩
    walk_at "rd"
    refine ite2 (fun c => ?_) (fun c => ?_)
    · walk_at "rd"
      rwa [show decide (z ≤ hi) = decide (lo ≤ z ∧ z ≤ hi) from by simp at c; simp [c]]
    · rwa [show false = decide (lo ≤ z ∧ z ≤ hi) from by simp at c; simp; omega]
end
end KK

local macro_rules
  | `(tactic| walk_at "rd_f") => `(tactic| first | exact KK.fl_m _ | exact KK.fl_t _ | exact KK.fl_s _ | exact KK.fl_c _ | exact KK.fl_l _)
local macro_rules
  | `(tactic| walk_at "rd_n") => `(tactic| (refine KK.TxtO.na (by assumption) _ ?_; decide +kernel))
namespace KK
open PySem PySem.Spec PyProof.Rows L2
theorem sgn_lo (s : Str) : -(2 ^ 64) < sgn s := by
  unfold sgn
  split <;> decide
theorem sgn_hi (s : Str) : sgn s < 2 ^ 64 := by
  unfold sgn
  split <;> decide
theorem nm_len {z : Str} (h : isNm z = true) : z.length ≤ 1000 := by
  have := of_decide_eq_true h
  omega
theorem th_nm {z : Str} (h : isTh z = true) : isNm z = true := by
  unfold isTh at h
  rw [Bool.and_eq_true] at h
  exact h.1
section
variable {P : Program} {w : World} {K : PySem.W.Frag} {mg : Str → Option Value} {base : Heap} {C : Addr}
abbrev s_init : Stmt := inClass (top 15) 2
theorem sc_init : FnScope ["self", "member", "thing", "side", "count", "limit"] ["self", "member", "thing", "side", "count", "limit"] (defScope s_init) := ⟨rfl, rfl, rfl, by decide +kernel, rfl, by decide +kernel, by decide +kernel⟩
theorem ok_init {f : Addr} {fd : FuncData} (F : Fun K "__init__" "Order.__init__" s_init f fd) (T : TxtO K mg C) (D_isname : Def P w K mg base "is_name" 1 ["thing"] spIsName) (D_isthing : Def P w K mg base "is_thing_name" 2 ["thing"] spIsThing) (D_whole : Def P w K mg base "is_whole" 2 ["thing", "low", "high"] spWhole) : FnOk P w K mg base CX0 4 f fd ["self", "member", "thing", "side", "count", "limit"] (spInit C) := by
  refine F.ok sc_init (fun vs H Q E h => ?_) (fun cdv A outer s H vs Q E hr h => ?_)
  · obtain ⟨p, dx, o, rfl, _⟩ := h
    rfl
  · obtain ⟨p, dx, o, rfl, hp, ok, k⟩ := h
    obtain ⟨_, k_MOST⟩ := T.k_MOST
    obtain ⟨_, k_MOST_COUNT⟩ := T.k_MOST_COUNT
    obtain ⟨mc, rdc, ⟨u1, cv1⟩, ⟨u2, cv2⟩⟩ := T.rd
    have hcl := T.cl_Order
    refine ⟨_, (pss_cons (ps_if (pt_not (pt_val (pe_call D_isname.ok (hr.mono (by decide)) (by rfl) D_isname.mg D_isname.kp D_isname.b .nil pass0 (pa_cons (pv 1) pa_nil)))) (pss_one ps_never) pss_nil)
      (pss_cons (ps_if (pt_not (pt_val (pe_call D_isthing.ok (hr.mono (by decide)) (by rfl) D_isthing.mg D_isthing.kp D_isthing.b .nil pass0 (pa_cons (pv 2) pa_nil)))) (pss_one ps_never) pss_nil)
      (pss_cons (ps_if (PW.pt (pw_and (pt_cmpR op_ne (pv 3) (ClX.pe_cval (pe_glob (v := .ref C) rfl T.c_Order rfl)) (nomark _)) (pw_and1 (pt_cmpR op_ne (pv 3) (ClX.pe_cval (pe_glob (v := .ref C) rfl T.c_Order rfl)) (nomark _))))) (pss_one ps_never) pss_nil)
      (pss_cons (ps_if (pt_not (pt_val (pe_call D_whole.ok (hr.mono (by decide)) (by rfl) D_whole.mg D_whole.kp D_whole.b .nil pass0 (pa_cons (pv 4) (pa_cons pe_int (pa_cons (pe_glob (v := (.int 1000000)) rfl k_MOST_COUNT ⟨_, rfl⟩) pa_nil)))))) (pss_one ps_never) pss_nil)
      (pss_cons (ps_if (pt_not (pt_val (pe_call D_whole.ok (hr.mono (by decide)) (by rfl) D_whole.mg D_whole.kp D_whole.b .nil pass0 (pa_cons (pv 5) (pa_cons (pe_un un_neg (pe_glob (v := (.int 1000000000000)) rfl k_MOST ⟨_, rfl⟩)) (pa_cons (pe_glob (v := (.int 1000000000000)) rfl k_MOST ⟨_, rfl⟩) pa_nil)))))) (pss_one ps_never) pss_nil)
      (pss_cons (ps_fld (pv 0) (pv 1) rfl)
      (pss_cons (ps_fld (pv 0) (pv 2) rfl)
      (pss_cons (ps_fld (pv 0) (pv 3) rfl)
      (pss_cons (ps_fld (pv 0) (pv 4) rfl)
      (pss_one (ps_fld (pv 0) (pv 5) rfl))))))))))), ?_⟩
    walk_at "rd"
    refine ⟨_, rfl, nm_len ok.m, fun H1 s1 => ?_⟩
    rw [ok.m]
    walk_at "rd"
    refine ⟨_, rfl, nm_len (th_nm ok.t), fun H2 s2 => ?_⟩
    rw [ok.t]
    walk_at "rd"
    refine ⟨C, mc, _, u1, rfl, rdc, cv1, ?_⟩
    walk_at "rd"
    refine ite2 (fun c1 => ?both) (fun c1 => ?one)
    case' both =>
      walk_at "rd"
      refine ⟨C, mc, _, u2, rfl, rdc, cv2, ?_⟩
      walk_at "rd"
      refine ite2 (fun c2 => absurd ok.s (fun z => by simp at c1 c2; rcases z with z | z; exact c1 z; exact c2 z)) (fun c2 => ?_)
    all_goals
      walk_at "rd"
      refine ⟨_, _, _, rfl, ?_⟩
      rw [show decide (1 ≤ o.c ∧ o.c ≤ 1000000) = true from decide_eq_true ⟨ok.c0, ok.c1⟩]
      walk_at "rd"
      refine ⟨_, _, _, rfl, ?_⟩
      rw [show decide (-1000000000000 ≤ o.l ∧ o.l ≤ 1000000000000) = true from decide_eq_true ⟨ok.l0, ok.l1⟩]
      have hp2 := s2 _ _ (s1 _ _ hp)
      walk_at "rd"
      refine k _ (fun b' u e nb => ?_) upd_same
      rw [upd_ne nb, upd_ne nb, upd_ne nb, upd_ne nb, upd_ne nb]
      exact s2 _ _ (s1 _ _ e)
abbrev s_sign : Stmt := inClass (top 15) 3
theorem sc_sign : FnScope ["self"] ["self"] (defScope s_sign) := ⟨rfl, rfl, rfl, by decide +kernel, rfl, by decide +kernel, by decide +kernel⟩
theorem ok_sign {f : Addr} {fd : FuncData} (F : Fun K "sign" "Order.sign" s_sign f fd) (T : TxtO K mg C) : FnOk P w K mg base CX0 1 f fd ["self"] (spSign C) := by
  refine F.ok sc_sign (fun vs H Q E h => ?_) (fun cdv A outer s H vs Q E hr h => ?_)
  · obtain ⟨p, dx, o, rfl, _⟩ := h
    rfl
  · obtain ⟨p, dx, o, rfl, hp, k⟩ := h
    obtain ⟨mc, rdc, ⟨u1, cv1⟩, ⟨u2, cv2⟩⟩ := T.rd
    have hcl := T.cl_Order
    refine ⟨_, (pss_one (ps_ret (pe_ifExp (pt_cmpR op_eq (pe_fld (pv 0) rfl) (ClX.pe_cval (pe_glob (v := .ref C) rfl T.c_Order rfl)) (nomark _)) pe_int (pe_un un_neg pe_int)))), ?_⟩
    walk_at "rd"
    refine ⟨C, mc, _, u1, rfl, rdc, cv1, ?_⟩
    walk_at "rd"
    unfold sgn at k
    refine ite2 (fun c => ?_) (fun c => ?_)
    · walk_at "rd"
      rwa [if_pos (by simpa using c)] at k
    · walk_at "rd"
      rwa [if_neg (by simpa using c)] at k
abbrev s_meets : Stmt := top 16
theorem sc_meets : FnScope ["one", "other"] ["one", "other"] (defScope s_meets) := ⟨rfl, rfl, rfl, by decide +kernel, rfl, by decide +kernel, by decide +kernel⟩
theorem ok_meets {f : Addr} {fd : FuncData} (F : Fun K "meets" "meets" s_meets f fd) (T : TxtO K mg C) (D_sign : PDef P w K mg base C "sign" 1 (spSign C)) : FnOk P w K mg base CX0 3 f fd ["one", "other"] (spMeets C) := by
  refine F.ok sc_meets (fun vs H Q E h => ?_) (fun cdv A outer s H vs Q E hr h => ?_)
  · obtain ⟨p, q, dx, dy, o, u, rfl, _⟩ := h
    rfl
  · obtain ⟨p, q, dx, dy, o, u, rfl, hp, hq, k⟩ := h
    have hcl := T.cl_Order
    refine ⟨_, (pss_cons (ps_if (PW.pt (pw_or (pt_cmpR op_eq (pe_fld (pv 0) rfl) (pe_fld (pv 1) rfl) (nomark _)) (pw_or (pt_cmpR op_ne (pe_fld (pv 0) rfl) (pe_fld (pv 1) rfl) (nomark _)) (pw_or1 (pt_cmpR op_eq (pe_fld (pv 0) rfl) (pe_fld (pv 1) rfl) (nomark _)))))) (pss_one (ps_ret pe_bl)) pss_nil)
      (pss_one (ps_ret (pe_cmpR op_ge (pe_op op_add (pe_op op_mul (pe_prop (pv 0) T.cl_Order D_sign.po D_sign.ok (hr.mono (by decide)) D_sign.b .nil pass0 rfl) (pe_fld (pv 0) rfl)) (pe_op op_mul (pe_prop (pv 1) T.cl_Order D_sign.po D_sign.ok (hr.mono (by decide)) D_sign.b .nil pass0 rfl) (pe_fld (pv 1) rfl))) pe_int (nomark _))))), ?_⟩
    walk_at "rd"
    refine ite2 (fun c => ?_) (fun c => ?_)
    · walk_at "rd"
      have e : o.m = u.m := by simpa using c
      rwa [show meetB o u = false from by unfold meetB; rw [if_pos (.inl e)]] at k
    · walk_at "rd"
      have n1 : o.m ≠ u.m := by simpa using c
      refine ite2 (fun c => ?_) (fun c => ?_)
      · walk_at "rd"
        have e : o.t ≠ u.t := by simpa using c
        rwa [show meetB o u = false from by unfold meetB; rw [if_pos (.inr (.inl e))]] at k
      · walk_at "rd"
        have n2 : o.t = u.t := by simpa using c
        refine ite2 (fun c => ?_) (fun c => ?_)
        · walk_at "rd"
          have e : o.s = u.s := by simpa using c
          rwa [show meetB o u = false from by unfold meetB; rw [if_pos (.inr (.inr e))]] at k
        · walk_at "rd"
          have n3 : o.s ≠ u.s := by simpa using c
          refine ⟨_, _, _, rfl, hp, p, dx, o, rfl, hp, ?_⟩
          walk_at "rd"
          refine RD.iC (RD.mull (sgn_lo _) (sgn_hi _)) ?_
          walk_at "rd"
          refine ⟨_, _, _, rfl, hq, q, dy, u, rfl, hq, ?_⟩
          walk_at "rd"
          refine RD.iC (RD.mull (sgn_lo _) (sgn_hi _)) ?_
          walk_at "rd"
          rwa [show meetB o u = decide (0 ≤ sgn o.s * o.l + sgn u.s * u.l) from by unfold meetB; rw [if_neg (by simp [n1, n2, n3])]] at k
end
end KK

local macro_rules
  | `(tactic| walk_at "rd_f") => `(tactic| first | exact KK.fl_m _ | exact KK.fl_t _ | exact KK.fl_s _ | exact KK.fl_c _ | exact KK.fl_l _)
local macro_rules
  | `(tactic| walk_at "rd_n") => `(tactic| (refine KK.TxtO.na (by assumption) _ ?_; decide +kernel))
namespace KK
open PySem PySem.Spec PyProof.Rows L2
section
variable {P : Program} {w : World} {K : PySem.W.Frag} {mg : Str → Option Value} {base : Heap} {C : Addr}
abbrev s_due : Stmt := top 24
theorem sc_due : FnScope ["one", "other"] ["one", "other"] (defScope s_due) := ⟨rfl, rfl, rfl, by decide +kernel, rfl, by decide +kernel, by decide +kernel⟩
theorem ok_due {f : Addr} {fd : FuncData} (F : Fun K "_law_due" "_law_due" s_due f fd) : FnOk P w K mg base CX0 1 f fd ["one", "other"] spDue := by
  refine F.ok sc_due (fun vs H Q E h => ?_) (fun cdv A outer s H vs Q E hr h => ?_)
  · obtain ⟨p, q, o, u, rfl, _⟩ := h
    rfl
  · obtain ⟨p, q, o, u, rfl, hp, hq, k⟩ := h
    unfold oRow at hp hq
    refine ⟨_, (pss_cons (ps_if (PW.pt (pw_or (pt_cmpR op_eq (pe_ix ix_list (pv 0) pe_int (fun _ _ => rfl)) (pe_ix ix_list (pv 1) pe_int (fun _ _ => rfl)) (nomark _)) (pw_or1 (pt_cmpR op_ne (pe_ix ix_list (pv 0) pe_int (fun _ _ => rfl)) (pe_ix ix_list (pv 1) pe_int (fun _ _ => rfl)) (nomark _))))) (pss_one (ps_ret pe_bl)) pss_nil)
      (pss_cons (ps_if (PW.pt (pw_and (pt_cmpR op_eq (pe_ix ix_list (pv 0) pe_int (fun _ _ => rfl)) pe_str (nomark _)) (pw_and1 (pt_cmpR op_eq (pe_ix ix_list (pv 1) pe_int (fun _ _ => rfl)) pe_str (nomark _))))) (pss_one (ps_ret (pe_cmpR op_ge (pe_ix ix_list (pv 0) pe_int (fun _ _ => rfl)) (pe_ix ix_list (pv 1) pe_int (fun _ _ => rfl)) (nomark _)))) pss_nil)
      (pss_cons (ps_if (PW.pt (pw_and (pt_cmpR op_eq (pe_ix ix_list (pv 0) pe_int (fun _ _ => rfl)) pe_str (nomark _)) (pw_and1 (pt_cmpR op_eq (pe_ix ix_list (pv 1) pe_int (fun _ _ => rfl)) pe_str (nomark _))))) (pss_one (ps_ret (pe_cmpR op_le (pe_ix ix_list (pv 0) pe_int (fun _ _ => rfl)) (pe_ix ix_list (pv 1) pe_int (fun _ _ => rfl)) (nomark _)))) pss_nil)
      (pss_one (ps_ret pe_bl))))), ?_⟩
    unfold dueB at k
    walk_at "rd"
    refine ite2 (fun c => ?_) (fun c => ?_)
    · walk_at "rd"
      rwa [if_pos (.inl (by simpa using c))] at k
    · walk_at "rd"
      have n1 : o.m ≠ u.m := by simpa using c
      refine ite2 (fun c => ?_) (fun c => ?_)
      · walk_at "rd"
        rwa [if_pos (.inr (by simpa using c))] at k
      · walk_at "rd"
        have n2 : o.t = u.t := by simpa using c
        rw [if_neg (by simp [n1, n2])] at k
        refine ite2 (fun c => ?_) (fun c => ?_)
        · walk_at "rd"
          have e1 : o.s = "buy" := by simpa using c
          refine ite2 (fun c => ?_) (fun c => ?_)
          · walk_at "rd"
            rwa [if_pos ⟨e1, by simpa using c⟩] at k
          · walk_at "rd"
            have e2 : u.s ≠ "sell" := by simpa using c
            rw [if_neg (fun z => e2 z.2)] at k
            have bs : ("buy" : Str) ≠ "sell" := by decide +kernel
            rw [if_neg (fun z => bs (e1.symm.trans z.1))] at k
            refine ite2 (fun c => ?_) (fun c => ?_)
            · exact absurd (e1.symm.trans (by simpa using c)) bs
            · walk_at "rd"
              exact k
        · walk_at "rd"
          have e1 : o.s ≠ "buy" := by simpa using c
          rw [if_neg (fun z => e1 z.1)] at k
          refine ite2 (fun c => ?_) (fun c => ?_)
          · walk_at "rd"
            have e2 : o.s = "sell" := by simpa using c
            refine ite2 (fun c => ?_) (fun c => ?_)
            · walk_at "rd"
              rwa [if_pos ⟨e2, by simpa using c⟩] at k
            · walk_at "rd"
              rwa [if_neg (fun z => c (by simpa using z.2))] at k
          · walk_at "rd"
            rwa [if_neg (fun z => c (by simpa using z.1))] at k
abbrev s_row : Stmt := top 23
theorem sc_row : FnScope ["bag", "members", "things", "base", "limit", "side"] ["bag", "members", "things", "base"] (defScope s_row) := ⟨rfl, rfl, rfl, by decide +kernel, rfl, by decide +kernel, by decide +kernel⟩
theorem ok_row {f : Addr} {fd : FuncData} (F : Fun K "_law_row" "_law_row" s_row f fd) (D_take : Def P w K mg base "_law_take" 1 ["bag", "many"] spTake) (D_of : Def P w K mg base "_law_of" 2 ["bag", "some"] spOf) : FnOk P w K mg base CX0 3 f fd ["bag", "members", "things", "base"] spRow := by
  refine F.ok sc_row (fun vs H Q E h => ?_) (fun cdv A outer s H vs Q E hr h => ?_)
  · obtain ⟨b, M, N, ms, ts, z, rfl, _⟩ := h
    rfl
  · obtain ⟨b, M, N, ms, ts, z, rfl, hb, hM, hN, nM, nN, m0, m1, t0, t1, k⟩ := h
    refine ⟨_, (pss_cons (ps_set (i := 4) sc_row.nd rfl (.inl rfl) (pe_op op_add (pv 3) (pe_call D_of.ok (hr.mono (by decide)) (by rfl) D_of.mg D_of.kp D_of.b .nil pass0 (pa_cons (pv 0) (pa_cons (pe_lst (pa_cons pe_int (pa_cons pe_int (pa_cons pe_int (pa_cons (pe_un un_neg pe_int) (pa_cons (pe_op op_pow pe_int pe_int) (pa_cons (pe_un un_neg (pe_op op_pow pe_int pe_int)) pa_nil))))))) pa_nil)))))
      (pss_cons (ps_set (i := 5) sc_row.nd rfl (.inl rfl) (pe_call D_of.ok (hr.mono (by decide)) (by rfl) D_of.mg D_of.kp D_of.b .nil pass0 (pa_cons (pv 0) (pa_cons (pe_lst (pa_cons pe_str (pa_cons pe_str pa_nil))) pa_nil))))
      (pss_one (ps_ret (pe_lst (pa_cons (pe_call D_of.ok (hr.mono (by decide)) (by rfl) D_of.mg D_of.kp D_of.b .nil pass0 (pa_cons (pv 0) (pa_cons (pv 1) pa_nil))) (pa_cons (pe_call D_of.ok (hr.mono (by decide)) (by rfl) D_of.mg D_of.kp D_of.b .nil pass0 (pa_cons (pv 0) (pa_cons (pv 2) pa_nil))) (pa_cons (pv 5) (pa_cons (pe_op op_add pe_int (pe_call D_take.ok (hr.mono (by decide)) (by rfl) D_take.mg D_take.kp D_take.b .nil pass0 (pa_cons (pv 0) (pa_cons (pe_op op_pow pe_int pe_int) pa_nil)))) (pa_cons (pv 4) pa_nil)))))))))), ?_⟩
    walk_at "rd"
    refine ⟨by show 6 ≤ sizeLine; decide, fun p1 np1 => ?_⟩
    walk_at "rd"
    have e1 := ext_new (o := .lst [.int 0, .int 0, .int 1, .int (-1), .int (10 ^ (11 : Int).toNat), .int (-(10 ^ (11 : Int).toNat))]) hb np1
    refine ⟨b, p1, _, rfl, e1.1, upd_same, ne_bag hb np1, by decide, by decide, fun v H2 hv e2 => ?_⟩
    obtain ⟨d, rfl, d0, d1⟩ : ∃ d : Int, v = .int d ∧ -100000000000 ≤ d ∧ d ≤ 100000000000 := by
      simp only [List.mem_cons, List.not_mem_nil, or_false] at hv
      rcases hv with rfl | rfl | rfl | rfl | rfl | rfl
      all_goals exact ⟨_, rfl, by decide, by decide⟩
    walk_at "rd"
    refine ⟨by show 2 ≤ sizeLine; decide, fun p2 np2 => ?_⟩
    walk_at "rd"
    have e3 := ext_new (o := .lst [.str "buy", .str "sell"]) e2.1 np2
    refine ⟨b, p2, _, rfl, e3.1, upd_same, ne_bag e2.1 np2, by decide, by decide, fun v H4 hv e4 => ?_⟩
    obtain ⟨sd, rfl, hs⟩ : ∃ sd : Str, v = .str sd ∧ (sd = "buy" ∨ sd = "sell") := by
      simp only [List.mem_cons, List.not_mem_nil, or_false] at hv
      rcases hv with rfl | rfl
      · exact ⟨_, rfl, .inl rfl⟩
      · exact ⟨_, rfl, .inr rfl⟩
    have e14 := ((e1.trans e2).trans e3).trans e4
    walk_at "rd"
    refine ⟨b, M, _, rfl, e4.1, e14.2 _ _ hM nM, nM, by rw [List.length_map]; exact m0, by rw [List.length_map]; exact m1, fun v H5 hv e5 => ?_⟩
    obtain ⟨m, hm, rfl⟩ := List.mem_map.mp hv
    walk_at "rd"
    refine ⟨b, N, _, rfl, e5.1, (e14.trans e5).2 _ _ hN nN, nN, by rw [List.length_map]; exact t0, by rw [List.length_map]; exact t1, fun v H6 hv e6 => ?_⟩
    obtain ⟨t, ht, rfl⟩ := List.mem_map.mp hv
    walk_at "rd"
    refine ⟨b, _, rfl, e6.1, by decide, by decide, fun r H7 r0 r1 e7 => ?_⟩
    have r2 : r < 1000000 := r1
    have e17 := ((e14.trans e5).trans e6).trans e7
    walk_at "rd"
    refine ⟨by show 5 ≤ sizeLine; decide, fun p np => ?_⟩
    have np0 : H p = none := by
      cases q : H p with
      | none => rfl
      | some o =>
        by_cases e : p = b
        · subst e
          obtain ⟨x, y, z⟩ := e7.1
          rw [z] at np; cases np
        · rw [e17.2 _ _ q e] at np; cases np
    exact k p ⟨m, t, sd, 1 + r, z + d⟩ _ hm ht hs (show 1 ≤ 1 + r by omega) (show 1 + r ≤ 1000000 by omega) (show _ ≤ z + d by omega) (show z + d ≤ _ by omega) np0 (ne_bag hb np0) upd_same (e17.trans (ext_new e7.1 np))
end
end KK

local macro_rules
  | `(tactic| walk_at "rd_f") => `(tactic| first | exact KK.fl_m _ | exact KK.fl_t _ | exact KK.fl_s _ | exact KK.fl_c _ | exact KK.fl_l _)
local macro_rules
  | `(tactic| walk_at "rd_n") => `(tactic| (refine KK.TxtO.na (by assumption) _ ?_; decide +kernel))
namespace KK
open PySem PySem.Spec PyProof.Rows L2
structure MDef (P : Program) (w : World) (K : PySem.W.Frag) (mg : Str → Option Value) (base : Heap) (C : Addr) (k : Nat) (ps : List Str) (sp : Sp) where
  f : Addr
  fd : FuncData
  made : Mk K C f
  ok : FnOk P w K mg base CX0 k f fd ps sp
  b : Binds K fd ps []
def rowD (m t s : Str) (c l : Int) : PyData := .list [.str m, .str t, .str s, .int c, .int l]
theorem ok_str {z : Str} (h : Ltrs z) : PyData.strOk z = true := by
  unfold PyData.strOk
  rw [← Array.all_toList]
  exact List.all_eq_true.mpr fun c hc => decide_eq_true (by have := h c hc; omega)
theorem nm_ltr {z : Str} (h : isNm z = true) : Ltrs z := (of_decide_eq_true h).2.2
theorem row_lay {m t s : Str} {c l : Int} (hm : Ltrs m) (ht : Ltrs t) (hs : Ltrs s) : (rowD m t s c l).canLay0 = true := by
  simp only [rowD, PyData.canLay0, PyData.canLayAll0, ok_str hm, ok_str ht, ok_str hs]
  decide
theorem row_depth (m t s : Str) (c l : Int) : (rowD m t s c l).depth ≤ 64 := by simp [rowD, PyData.depth, PyData.depthAll]
theorem row_shaped {m t s : Str} {c l : Int} (hm : Ltrs m) (ht : Ltrs t) (hs : Ltrs s) : SeqAt.shaped (.list [.str m, .str t, .str s, .int c, .int l]) = true := by
  show (rowD m t s c l).canLay0 && decide ((rowD m t s c l).depth ≤ 64) = true
  rw [row_lay hm ht hs, decide_eq_true (row_depth m t s c l)]
  rfl
theorem side_ltr {z : Str} (h : z = "buy" ∨ z = "sell") : Ltrs z := by
  rcases h with rfl | rfl <;> decide +kernel
theorem row_eqv {m t s : Str} {c l : Int} (hm : Ltrs m) (ht : Ltrs t) (hs : Ltrs s) : PyData.eqv (.list [.str m, .str t, .str s, .int c, .int l]) (.list [.str m, .str t, .str s, .int c, .int l]) = true := SeqAt.eqv_refl _ (row_lay hm ht hs)
structure TxtL (K : PySem.W.Frag) (mg : Str → Option Value) (C : Addr) : Prop extends TxtO K mg C where
  b_range : mg "range" = none
  b_max : mg "max" = none
  b_min : mg "min" = none
def spLaw (K : PySem.W.Frag) : Sp := fun vs H Q _ => ∃ (a : Addr) (ns : List Int), vs = [.ref a] ∧ SqL K H a (ns.map V.int) ∧ ns.length ≤ 63 ∧ ∀ H', Q (.bl true) H'
/-- what stands behind the drawing of a script's cell: H0 is the heap that the law found -/
structure Day (H0 H : Hp) (b M N : Addr) (ms ts : List Str) : Prop where
  s : Same H0 H
  n : H0 b = none
  bag : Bag H b
  hM : H M = some (.lst (ms.map V.str))
  hN : H N = some (.lst (ts.map V.str))
  nM : M ≠ b
  nN : N ≠ b
  lm : ms.length = 2
  lt : ts.length = 2
  om : ∀ z ∈ ms, NameOk z
  ot : ∀ z ∈ ts, NameOk z
theorem same_ext {H0 H H' : Hp} {b : Addr} (s : Same H0 H) (n : H0 b = none) (e : Ext b H H') : Same H0 H' := fun c o h => e.2 c o (s c o h) (ne_of_none h n)
theorem Day.ext {H0 H H' : Hp} {b M N : Addr} {ms ts : List Str} (d : Day H0 H b M N ms ts) (e : Ext b H H') : Day H0 H' b M N ms ts :=
  ⟨same_ext d.s d.n e, d.n, e.1, e.2 _ _ d.hM d.nM, e.2 _ _ d.hN d.nN, d.nM, d.nN, d.lm, d.lt, d.om, d.ot⟩
theorem Day.set {H0 H : Hp} {b M N r : Addr} {ms ts : List Str} {u : HO} (d : Day H0 H b M N ms ts) (f : H0 r = none) (nb : r ≠ b) (nM : M ≠ r) (nN : N ≠ r) : Day H0 (upd H r u) b M N ms ts := by
  obtain ⟨x, y, e⟩ := d.bag
  exact ⟨fun c o h => by rw [upd_ne (ne_of_none h f)]; exact d.s _ _ h, d.n, ⟨x, y, by rw [upd_ne nb.symm]; exact e⟩, by rw [upd_ne nM]; exact d.hM, by rw [upd_ne nN]; exact d.hN, d.nM, d.nN, d.lm, d.lt, d.om, d.ot⟩
theorem two {α : Type} : ∀ {l : List α}, l.length = 2 → ∃ a b, l = [a, b]
  | [a, b], _ => ⟨a, b, rfl⟩
structure Rows (H0 H : Hp) (b R r0 r1 : Addr) (o0 o1 : OD) : Prop where
  hR : H R = some (.lst [.ref r0, .ref r1])
  h0 : H r0 = some (.lst (oRow o0))
  h1 : H r1 = some (.lst (oRow o1))
  k0 : ODok o0
  k1 : ODok o1
  nR : R ≠ b
  n0 : r0 ≠ b
  n1 : r1 ≠ b
  n01 : r0 ≠ r1
  f1 : H0 r1 = none
theorem ne_len {H : Hp} {p q : Addr} {xs ys : List V} (hp : H p = some (.lst xs)) (hq : H q = some (.lst ys)) (n : xs.length ≠ ys.length) : p ≠ q := by
  intro e
  subst e
  rw [hp] at hq
  cases hq
  exact n rfl
theorem Rows.ext {H0 H H' : Hp} {b R r0 r1 : Addr} {o0 o1 : OD} (d : Rows H0 H b R r0 r1 o0 o1) (e : Ext b H H') : Rows H0 H' b R r0 r1 o0 o1 :=
  ⟨e.2 _ _ d.hR d.nR, e.2 _ _ d.h0 d.n0, e.2 _ _ d.h1 d.n1, d.k0, d.k1, d.nR, d.n0, d.n1, d.n01, d.f1⟩
theorem Rows.set {H0 H : Hp} {b R r0 r1 : Addr} {o0 o1 o2 : OD} (d : Rows H0 H b R r0 r1 o0 o1) (k2 : ODok o2) : Rows H0 (upd H r1 (.lst (oRow o2))) b R r0 r1 o0 o2 :=
  ⟨by rw [upd_ne (ne_len d.hR d.h1 (by show ¬ 2 = 5; decide))]; exact d.hR, by rw [upd_ne d.n01]; exact d.h0, upd_same, d.k0, k2, d.nR, d.n0, d.n1, d.n01, d.f1⟩
/-- while the two rows are drawn -/
def Drawn (H0 : Hp) (b R M N : Addr) (ms ts : List Str) (i : Nat) (H : Hp) : Prop := Day H0 H b M N ms ts ∧ R ≠ b ∧ match i with
  | 0 => H R = some (.lst [])
  | 1 => ∃ r0 o0, H R = some (.lst [.ref r0]) ∧ H r0 = some (.lst (oRow o0)) ∧ ODok o0 ∧ r0 ≠ b
  | _ => ∃ r0 r1 o0 o1, Rows H0 H b R r0 r1 o0 o1
theorem nm_is {z : Str} (h : NameOk z) : isNm z = true := decide_eq_true ⟨h.lo, h.hi, h.ltr⟩
theorem nm_th {z : Str} (h : NameOk z) : isTh z = true := by
  unfold isTh
  rw [nm_is h, decide_eq_true h.nc]
  rfl
theorem made_ext {b x dx C : Addr} {H H' : Hp} (hb : Bag H b) (nx : H x = none) (nd : H dx = none) (fr : ∀ c o, (upd (upd H dx (.own x)) x (.ins C dx [])) c = some o → c ≠ x → H' c = some o) : Ext b H H' := by
  have k : ∀ c o, H c = some o → H' c = some o := fun c o e => fr c o (by rw [upd_ne (ne_of_none e nx), upd_ne (ne_of_none e nd)]; exact e) (ne_of_none e nx)
  obtain ⟨u, v, e⟩ := hb
  exact ⟨⟨u, v, k _ _ e⟩, fun c o e _ => k c o e⟩
theorem meet_due {o u : OD} (ho : o.s = "buy" ∨ o.s = "sell") (hu : u.s = "buy" ∨ u.s = "sell") : meetB o u = dueB o u ∧ meetB u o = dueB o u := by
  have bs : ¬ (("buy" : Str) = "sell") := by decide +kernel
  have sb : ¬ (("sell" : Str) = "buy") := by decide +kernel
  unfold meetB dueB sgn
  by_cases h1 : o.m = u.m
  · simp [h1]
  by_cases h2 : o.t = u.t
  · rcases ho with e1 | e1 <;> rcases hu with e2 | e2
    all_goals simp [h1, Ne.symm h1, h2, e1, e2, bs, sb]
    all_goals exact ⟨by omega, by omega⟩
  · simp [h1, h2, Ne.symm h1, Ne.symm h2]
theorem meet_self (o : OD) : meetB o o = false := by
  unfold meetB
  simp
section
variable {P : Program} {w : World} {K : PySem.W.Frag} {mg : Str → Option Value} {base : Heap} {C : Addr}
abbrev s_law : Stmt := top 25
theorem sc_law : FnScope ["script", "at", "bag", "members", "things", "turn", "base", "rows", "one", "other", "due", "told", "each"] ["script"] (defScope s_law) := ⟨rfl, rfl, rfl, by decide +kernel, rfl, by decide +kernel, by decide +kernel⟩
theorem ok_law {f : Addr} {fd : FuncData} (F : Fun K "law" "law" s_law f fd) (T : TxtL K mg C) (D_bag : Def P w K mg base "_law_bag" 1 ["script", "at"] (spBag K)) (D_take : Def P w K mg base "_law_take" 1 ["bag", "many"] spTake) (D_of : Def P w K mg base "_law_of" 2 ["bag", "some"] spOf)
    (D_names : Def P w K mg base "_law_names" 3 ["bag", "many"] spNames) (D_far : Def P w K mg base "_law_far" 2 ["bag", "most"] spFar) (D_row : Def P w K mg base "_law_row" 3 ["bag", "members", "things", "base"] spRow) (D_due : Def P w K mg base "_law_due" 1 ["one", "other"] spDue)
    (D_meets : Def P w K mg base "meets" 3 ["one", "other"] (spMeets C)) (D_init : MDef P w K mg base C 4 ["self", "member", "thing", "side", "count", "limit"] (spInit C)) : FnOk P w K mg base CX0 7 f fd ["script"] (spLaw K) := by
  have TO := T.toTxtO
  have hcl := T.cl_Order
  refine F.ok sc_law (fun vs H Q E h => ?_) (fun cdv A outer s H0 vs Q E hr h => ?_)
  · obtain ⟨a, ns, rfl, _⟩ := h
    rfl
  · obtain ⟨a, ns, rfl, hS, hlen, k⟩ := h
    refine ⟨_, (pss_cons (ps_for PassesOwn.never rfl (pi_range1 (by rfl) T.b_range (pa_cons (pe_callB (call_max2 rfl) (by rfl) T.b_max (by decide +kernel) (pa_cons pe_int (pa_cons (pe_callB (call_min2 rfl) (by rfl) T.b_min (by decide +kernel) (pa_cons pe_int (pa_cons (pe_callB call_len_seq (by rfl) T.b_len (by decide +kernel) (pa_cons (pv 0) pa_nil)) pa_nil))) pa_nil))) pa_nil)) (pg_name (i := 1) sc_law.nd rfl (.inl rfl))
      (pss_cons (ps_set (i := 2) sc_law.nd rfl (.inr rfl) (pe_call D_bag.ok (hr.mono (by decide)) (by rfl) D_bag.mg D_bag.kp D_bag.b .nil pass0 (pa_cons (pv 0) (pa_cons (pv 1) pa_nil))))
      (pss_cons (ps_asg (pe_tup (pa_cons (pe_call D_names.ok (hr.mono (by decide)) (by rfl) D_names.mg D_names.kp D_names.b .nil pass0 (pa_cons (pv 2) (pa_cons pe_int pa_nil))) (pa_cons (pe_call D_names.ok (hr.mono (by decide)) (by rfl) D_names.mg D_names.kp D_names.b .nil pass0 (pa_cons (pv 2) (pa_cons pe_int pa_nil))) pa_nil))) (pg_tup rfl (pgs_cons (pg_name (i := 3) sc_law.nd rfl (.inr rfl)) (pgs_cons (pg_name (i := 4) sc_law.nd rfl (.inr rfl)) pgs_nil))))
      (C8.pss_cut (ps_if (pt_cmpR op_eq (pe_call D_take.ok (hr.mono (by decide)) (by rfl) D_take.mg D_take.kp D_take.b .nil pass0 (pa_cons (pv 2) (pa_cons pe_int pa_nil))) pe_int (nomark _)) (pss_one (ps_set (i := 4) sc_law.nd rfl (.inr rfl) (pe_lst (pa_cons (pe_ix ix_list (pv 4) pe_int (fun _ _ => rfl)) (pa_cons (pe_ix ix_list (pv 4) pe_int (fun _ _ => rfl)) pa_nil))))) pss_nil)
      (pss_one (ps_for PassesOwn.never rfl (pi_range1 (by rfl) T.b_range (pa_cons pe_int pa_nil)) (pg_name (i := 5) sc_law.nd rfl (.inl rfl))
      (pss_cons (ps_set (i := 6) sc_law.nd rfl (.inr rfl) (pe_call D_of.ok (hr.mono (by decide)) (by rfl) D_of.mg D_of.kp D_of.b .nil pass0 (pa_cons (pv 2) (pa_cons (pe_lst (pa_cons pe_int (pa_cons pe_int (pa_cons (pe_op op_mul pe_int (pe_op op_pow pe_int pe_int)) (pa_cons (pe_op op_mul (pe_un un_neg pe_int) (pe_op op_pow pe_int pe_int)) (pa_cons (pe_call D_far.ok (hr.mono (by decide)) (by rfl) D_far.mg D_far.kp D_far.b .nil pass0 (pa_cons (pv 2) (pa_cons (pe_op op_pow pe_int pe_int) pa_nil))) pa_nil)))))) pa_nil))))
      (pss_cons (ps_setLc (i := 7) (own := [("each", 12)]) (g := gName 12) (by rfl) sc_law.nd rfl rfl (sw_true rfl rfl rfl (by decide +kernel)) (pi_range1 (by rfl) T.b_range (pa_cons pe_int pa_nil)) (blkOk_by (own := [("each", 12)]) (N := ["script", "at", "bag", "members", "things", "turn", "base", "rows", "one", "other", "due", "told", "each"]) (sc := defScope s_law) (by decide +kernel)) (fun _ _ _ _ _ => (pg_name (i := 12) sc_law.nd rfl (.inl rfl))) (fun _ _ _ _ _ => pts_nil) (fun _ _ _ _ _ => (pe_call D_row.ok (hr.mono (by decide)) (by rfl) D_row.mg D_row.kp D_row.b .nil pass0 (pa_cons (pv 2) (pa_cons (pv 3) (pa_cons (pv 4) (pa_cons (pv 6) pa_nil)))))))
      (C8.pss_cut (ps_if (pt_cmpR op_gt (pv 5) pe_int (nomark _)) (C8.pss_cut (ps_asg (pe_ifExp (pt_cmpR op_eq (pe_ix ix_list (pe_ix ix_list (pv 7) pe_int (fun _ _ => rfl)) pe_int (fun _ _ => rfl)) pe_str (nomark _)) pe_str pe_str) (pg_sub (pe_ix ix_list (pv 7) pe_int (fun _ _ => rfl)) pe_int set_list))
      (pss_one (ps_asg (pe_ifExp (pt_cmpR op_eq (pe_ix ix_list (pe_ix ix_list (pv 7) pe_int (fun _ _ => rfl)) pe_int (fun _ _ => rfl)) (pe_ix ix_list (pv 3) pe_int (fun _ _ => rfl)) (nomark _)) (pe_ix ix_list (pv 3) pe_int (fun _ _ => rfl)) (pe_ix ix_list (pv 3) pe_int (fun _ _ => rfl))) (pg_sub (pe_ix ix_list (pv 7) pe_int (fun _ _ => rfl)) pe_int set_list)))) pss_nil)
      (pss_cons (ps_set (i := 8) sc_law.nd rfl (.inl rfl) (pe_make D_init.made D_init.ok (hr.mono (by decide)) (by rfl) T.c_Order D_init.b .nil pass0 (pa_cons (pe_ix ix_list (pe_ix ix_list (pv 7) pe_int (fun _ _ => rfl)) pe_int (fun _ _ => rfl)) (pa_cons (pe_ix ix_list (pe_ix ix_list (pv 7) pe_int (fun _ _ => rfl)) pe_int (fun _ _ => rfl)) (pa_cons (pe_ix ix_list (pe_ix ix_list (pv 7) pe_int (fun _ _ => rfl)) pe_int (fun _ _ => rfl)) (pa_cons (pe_ix ix_list (pe_ix ix_list (pv 7) pe_int (fun _ _ => rfl)) pe_int (fun _ _ => rfl)) (pa_cons (pe_ix ix_list (pe_ix ix_list (pv 7) pe_int (fun _ _ => rfl)) pe_int (fun _ _ => rfl)) pa_nil)))))))
      (pss_cons (ps_set (i := 9) sc_law.nd rfl (.inl rfl) (pe_make D_init.made D_init.ok (hr.mono (by decide)) (by rfl) T.c_Order D_init.b .nil pass0 (pa_cons (pe_ix ix_list (pe_ix ix_list (pv 7) pe_int (fun _ _ => rfl)) pe_int (fun _ _ => rfl)) (pa_cons (pe_ix ix_list (pe_ix ix_list (pv 7) pe_int (fun _ _ => rfl)) pe_int (fun _ _ => rfl)) (pa_cons (pe_ix ix_list (pe_ix ix_list (pv 7) pe_int (fun _ _ => rfl)) pe_int (fun _ _ => rfl)) (pa_cons (pe_ix ix_list (pe_ix ix_list (pv 7) pe_int (fun _ _ => rfl)) pe_int (fun _ _ => rfl)) (pa_cons (pe_ix ix_list (pe_ix ix_list (pv 7) pe_int (fun _ _ => rfl)) pe_int (fun _ _ => rfl)) pa_nil)))))))
      (pss_cons (ps_set (i := 10) sc_law.nd rfl (.inl rfl) (pe_call D_due.ok (hr.mono (by decide)) (by rfl) D_due.mg D_due.kp D_due.b .nil pass0 (pa_cons (pe_ix ix_list (pv 7) pe_int (fun _ _ => rfl)) (pa_cons (pe_ix ix_list (pv 7) pe_int (fun _ _ => rfl)) pa_nil))))
      (pss_cons (ps_for PassesOwn.never rfl (pi_list (pe_lst (pa_cons (pe_call D_meets.ok (hr.mono (by decide)) (by rfl) D_meets.mg D_meets.kp D_meets.b .nil pass0 (pa_cons (pv 8) (pa_cons (pv 9) pa_nil))) (pa_cons (pe_call D_meets.ok (hr.mono (by decide)) (by rfl) D_meets.mg D_meets.kp D_meets.b .nil pass0 (pa_cons (pv 9) (pa_cons (pv 8) pa_nil))) (pa_cons (pe_call D_meets.ok (hr.mono (by decide)) (by rfl) D_meets.mg D_meets.kp D_meets.b .nil pass0 (pa_cons (pv 8) (pa_cons (pv 9) pa_nil))) pa_nil))))) (pg_name (i := 11) sc_law.nd rfl (.inl rfl))
      (pss_one (ps_if (PW.pt (pw_or (pt_not (pt_val (pe_callB call_isi (by rfl) T.b_isinstance (by decide +kernel) (pa_cons (pv 11) (pa_cons (pe_bltn (v := .ty "bool") (by rfl) T.b_bool (by decide +kernel) rfl) pa_nil))))) (pw_or1 (pt_cmpR op_ne (pv 11) (pv 10) (nomark _))))) (pss_one (ps_ret pe_bl)) pss_nil)))
      (pss_cons (ps_if (PW.pt (pw_or (pt_cmpR op_notBl (pe_call D_meets.ok (hr.mono (by decide)) (by rfl) D_meets.mg D_meets.kp D_meets.b .nil pass0 (pa_cons (pv 8) (pa_cons (pv 8) pa_nil))) pe_bl (nomark _)) (pw_or1 (pt_cmpR op_notBl (pe_call D_meets.ok (hr.mono (by decide)) (by rfl) D_meets.mg D_meets.kp D_meets.b .nil pass0 (pa_cons (pv 9) (pa_cons (pv 9) pa_nil))) pe_bl (nomark _))))) (pss_one (ps_ret pe_bl)) pss_nil)
      (pss_cons (ps_if (pt_cmpR (op_neD hr.units) (pe_lst (pa_cons (pe_fld (pv 8) rfl) (pa_cons (pe_fld (pv 8) rfl) (pa_cons (pe_fld (pv 8) rfl) (pa_cons (pe_fld (pv 8) rfl) (pa_cons (pe_fld (pv 8) rfl) pa_nil)))))) (pe_ix ix_list (pv 7) pe_int (fun _ _ => rfl)) (nomark _)) (pss_one (ps_ret pe_bl)) pss_nil)
      (pss_one (ps_if (pt_cmpR (op_neD hr.units) (pe_lst (pa_cons (pe_fld (pv 9) rfl) (pa_cons (pe_fld (pv 9) rfl) (pa_cons (pe_fld (pv 9) rfl) (pa_cons (pe_fld (pv 9) rfl) (pa_cons (pe_fld (pv 9) rfl) pa_nil)))))) (pe_ix ix_list (pv 7) pe_int (fun _ _ => rfl)) (nomark _)) (pss_one (ps_ret pe_bl)) pss_nil)))))))))))))))))
      (pss_one (ps_ret pe_bl))), ?_⟩
    walk_at "rd"
    refine ⟨_, _, rfl, ?_⟩
    walk_at "rd"
    refine ⟨_, _, rfl, ?_⟩
    walk_at "rd"
    rw [List.length_map]
    have hz : 1 ≤ (if (if (ns.length : Int) < 4 then (ns.length : Int) else 4) > 1 then (if (ns.length : Int) < 4 then (ns.length : Int) else 4) else 1) ∧ (if (if (ns.length : Int) < 4 then (ns.length : Int) else 4) > 1 then (if (ns.length : Int) < 4 then (ns.length : Int) else 4) else 1) ≤ 4 := by
      split <;> split <;> omega
    revert hz
    generalize (if (if (ns.length : Int) < 4 then (ns.length : Int) else 4) > 1 then (if (ns.length : Int) < 4 then (ns.length : Int) else 4) else 1) = z
    intro hz
    refine ⟨by omega, by omega, ?_⟩
    refine for_range (lo := 0) (n := z.toNat) (fun i σ H => ∃ x1 x2 x3 x4 x5 x6 x7 x8 x9 x10 x11, σ = [some (.ref a), x1, x2, x3, x4, x5, x6, x7, x8, x9, x10, x11, none] ∧ Same H0 H)
      ⟨_, _, _, _, _, _, _, _, _, _, _, rfl, Same.refl H0⟩ ?_ ?_
    · rintro i σ H hi ⟨x1, x2, x3, x4, x5, x6, x7, x8, x9, x10, x11, rfl, sm⟩
      walk_at "rd"
      refine ⟨a, ns, i, congrArg (fun z => [V.ref a, V.int z]) (Int.zero_add _), sm.seq hS, hlen, fun b H1 fb bag1 s1 => ?_⟩
      have sm1 := sm.trans s1
      have b0 : H0 b = none := sm.free fb
      walk_at "rd"
      refine ⟨b, 2, rfl, bag1, by decide, fun M ms H2 lm om _ _ nM hM e2 => ?_⟩
      walk_at "rd"
      refine ⟨b, 2, rfl, e2.1, by decide, fun N ts H3 lt ot _ _ nN hN e3 => ?_⟩
      walk_at "rd"
      refine ⟨by show 2 ≤ sizeLine; decide, fun tp ntp => ?_⟩
      have d3 : Day H0 H3 b M N ms ts := ⟨same_ext (same_ext sm1 b0 e2) b0 e3, b0, e3.1, e3.2 _ _ hM nM, hN, nM, nN, lm, lt, om, ot⟩
      have d4 := d3.ext (ext_new (o := .tup [.ref M, .ref N]) e3.1 ntp)
      walk_at "rd"
      refine ⟨fun σ' H' => ∃ (N' : Addr) (ts' : List Str) (x5 x6 x7 x8 x9 x10 x11 : Option V), σ' = [some (.ref a), some (.int (0 + i)), some (.ref b), some (.ref M), some (.ref N'), x5, x6, x7, x8, x9, x10, x11, none] ∧ Day H0 H' b M N' ms ts', ?_, ?_⟩
      · walk_at "rd"
        refine ⟨b, _, rfl, d4.bag, by decide, by decide, fun r H5 r0 r1 e5 => ?_⟩
        have d5 := d4.ext e5
        walk_at "rd"
        refine ite2 (fun c => ?_) (fun c => ?_)
        · obtain ⟨t1, t2, rfl⟩ := two lt
          have hN5 : H5 N = some (.lst [.str t1, .str t2]) := d5.hN
          walk_at "rd"
          refine ⟨by show 2 ≤ sizeLine; decide, fun q nq => ?_⟩
          have d6 := d5.ext (ext_new (o := .lst [.str t1, .str t1]) e5.1 nq)
          walk_at "rd"
          refine ⟨q, [t1, t1], _, _, _, _, _, _, _, rfl, d6.s, d6.n, d6.bag, d6.hM, upd_same, d6.nM, ne_bag e5.1 nq, d6.lm, rfl, d6.om, fun z hz => ot z ?_⟩
          have : z = t1 := by simpa using hz
          rw [this]
          exact List.mem_cons_self
        · walk_at "rd"
          exact ⟨N, ts, _, _, _, _, _, _, _, rfl, d5⟩
      · clear d4 d3 e3 e2 hM hN nM nN lt ot
        rintro σ' H4 ⟨N, ts, x5, x6, x7, x8, x9, x10, x11, rfl, d4⟩
        walk_at "rd"
        refine ⟨by decide, by decide, ?_⟩
        refine for_range (lo := 0) (n := 12) (fun j σ H => ∃ (x5 x6 x7 x8 x9 x10 x11 : Option V), σ = [some (.ref a), some (.int (0 + i)), some (.ref b), some (.ref M), some (.ref N), x5, x6, x7, x8, x9, x10, x11, none] ∧ Day H0 H b M N ms ts)
          ⟨_, _, _, _, _, _, _, rfl, d4⟩ ?_ ?_
        · clear d4 H4
          rintro j σ H hj ⟨x5, x6, x7, x8, x9, x10, x11, rfl, d⟩
          obtain ⟨m1, m2, rfl⟩ := two d.lm
          obtain ⟨t1, t2, rfl⟩ := two d.lt
          walk_at "rd"
          refine ⟨b, _, rfl, d.bag, by decide, fun r H1 r0 r1 e1 => ?_⟩
          have r2 : r ≤ 100000000000 := r1
          walk_at "rd"
          refine ⟨by show 5 ≤ sizeLine; decide, fun q nq => ?_⟩
          have e2 := e1.trans (ext_new (o := .lst [.int 0, .int 5, .int (9 * 10 ^ (11 : Int).toNat), .int (-9 * 10 ^ (11 : Int).toNat), .int r]) e1.1 nq)
          walk_at "rd"
          refine ⟨b, q, _, rfl, e2.1, upd_same, ne_bag e1.1 nq, Nat.zero_lt_succ _, by show 5 < 1000; decide, fun v H3 hv e3 => ?_⟩
          have d3 := (d.ext e2).ext e3
          clear d
          obtain ⟨z, rfl, z0, z1⟩ : ∃ z : Int, v = .int z ∧ -900000000000 ≤ z ∧ z ≤ 900000000000 := by
            simp only [List.mem_cons, List.not_mem_nil, or_false] at hv
            rcases hv with rfl | rfl | rfl | rfl | rfl
            · exact ⟨_, rfl, by decide, by decide⟩
            · exact ⟨_, rfl, by decide, by decide⟩
            · exact ⟨_, rfl, by decide, by decide⟩
            · exact ⟨_, rfl, by decide, by decide⟩
            · exact ⟨_, rfl, by omega, by omega⟩
          walk_at "rd"
          refine ⟨by decide, by decide, fun R nR => ?_⟩
          have nRb := ne_bag d3.bag nR
          have fR : H0 R = none := d3.s.free nR
          have nMR : M ≠ R := ne_of_none d3.hM nR
          have nNR : N ≠ R := ne_of_none d3.hN nR
          refine lc_range (lo := 0) (n := 2) (Drawn H0 b R M N [m1, m2] [t1, t2]) ⟨d3.ext (ext_new d3.bag nR), nRb, upd_same⟩ ?_ ?_
          · rintro i' H4 hi' ⟨d4, nRb, h⟩
            walk_at "rd"
            refine ⟨rfl, ?_⟩
            walk_at "rd"
            refine ⟨b, M, N, [m1, m2], [t1, t2], z, rfl, d4.bag, d4.hM, d4.hN, d4.nM, d4.nN, Nat.zero_lt_succ _, by show 2 < 1000; decide, Nat.zero_lt_succ _, by show 2 < 1000; decide, fun p o H5 om ot os oc0 oc1 ol0 ol1 np npb hp e5 => ?_⟩
            have ok : ODok o := ⟨nm_is (d4.om _ om), nm_th (d4.ot _ ot), os, oc0, oc1, by omega, by omega⟩
            have d5 := d4.ext e5
            have f1 : H0 p = none := d4.s.free np
            have nM : M ≠ p := ne_len d5.hM hp (by show ¬ 2 = 5; decide)
            have nN : N ≠ p := ne_len d5.hN hp (by show ¬ 2 = 5; decide)
            rcases (show i' = 0 ∨ i' = 1 by omega) with e | e <;> subst e
            · have h : H4 R = some (.lst []) := h
              have h5 : H5 R = some (.lst []) := e5.2 _ _ h nRb
              exact ⟨[], h5, by decide, d5.set fR nRb nMR nNR, nRb, p, o, upd_same, by rw [upd_ne (ne_len hp h5 (by show ¬ 5 = 0; decide))]; exact hp, ok, npb⟩
            · obtain ⟨r0, o0, hR, h0, k0, n0⟩ := h
              have hR5 : H5 R = some (.lst [.ref r0]) := e5.2 _ _ hR nRb
              have h05 := e5.2 _ _ h0 n0
              exact ⟨[.ref r0], hR5, by show 1 < sizeLine; decide, d5.set fR nRb nMR nNR, nRb, r0, p, o0, o, upd_same, by rw [upd_ne (ne_len h05 hR5 (by show ¬ 5 = 1; decide))]; exact h05,
                by rw [upd_ne (ne_len hp hR5 (by show ¬ 5 = 1; decide))]; exact hp, k0, ok, nRb, n0, npb, ne_of_none h0 np, f1⟩
          · rintro H4 ⟨d4, nRb, r0, r1, o0, o1, rw4⟩
            walk_at "rd"
            refine ⟨fun σ' H' => ∃ (o1' : OD) (x8 x9 x10 x11 : Option V), σ' = [some (.ref a), some (.int (0 + i)), some (.ref b), some (.ref M), some (.ref N), some (.int (0 + j)), some (.int z), some (.ref R), x8, x9, x10, x11, none] ∧ Day H0 H' b M N [m1, m2] [t1, t2] ∧ Rows H0 H' b R r0 r1 o0 o1', ?_, ?_⟩
            · walk_at "rd"
              refine ite2 (fun c => ?_) (fun c => ?_)
              · refine ⟨fun σ' H' => ∃ (o1' : OD) (x8 x9 x10 x11 : Option V), σ' = [some (.ref a), some (.int (0 + i)), some (.ref b), some (.ref M), some (.ref N), some (.int (0 + j)), some (.int z), some (.ref R), x8, x9, x10, x11, none] ∧ Day H0 H' b M N [m1, m2] [t1, t2] ∧ Rows H0 H' b R r0 r1 o0 o1', ?_, ?_⟩
                · have hR := rw4.hR
                  have h0 := rw4.h0
                  have h1 := rw4.h1
                  have nM1 : M ≠ r1 := ne_len d4.hM h1 (by show ¬ 2 = 5; decide)
                  have nN1 : N ≠ r1 := ne_len d4.hN h1 (by show ¬ 2 = 5; decide)
                  walk_at "rd"
                  refine ite2 (fun c => ?_) (fun c => ?_)
                  · walk_at "rd"
                    exact ⟨⟨o1.m, o1.t, "buy", o1.c, o1.l⟩, _, _, _, _, rfl, d4.set rw4.f1 rw4.n1 nM1 nN1, rw4.set (o2 := ⟨o1.m, o1.t, "buy", o1.c, o1.l⟩) ⟨rw4.k1.m, rw4.k1.t, .inl rfl, rw4.k1.c0, rw4.k1.c1, rw4.k1.l0, rw4.k1.l1⟩⟩
                  · walk_at "rd"
                    exact ⟨⟨o1.m, o1.t, "sell", o1.c, o1.l⟩, _, _, _, _, rfl, d4.set rw4.f1 rw4.n1 nM1 nN1, rw4.set (o2 := ⟨o1.m, o1.t, "sell", o1.c, o1.l⟩) ⟨rw4.k1.m, rw4.k1.t, .inr rfl, rw4.k1.c0, rw4.k1.c1, rw4.k1.l0, rw4.k1.l1⟩⟩
                · clear rw4 d4
                  rintro σ' H5 ⟨o1, x8, x9, x10, x11, rfl, d4, rw4⟩
                  have hR := rw4.hR
                  have h0 := rw4.h0
                  have h1 := rw4.h1
                  have hM : H5 M = some (.lst [.str m1, .str m2]) := d4.hM
                  have nM1 : M ≠ r1 := ne_len hM h1 (by show ¬ 2 = 5; decide)
                  have nN1 : N ≠ r1 := ne_len d4.hN h1 (by show ¬ 2 = 5; decide)
                  walk_at "rd"
                  refine ite2 (fun c => ?_) (fun c => ?_)
                  · walk_at "rd"
                    exact ⟨⟨m2, o1.t, o1.s, o1.c, o1.l⟩, _, _, _, _, rfl, d4.set rw4.f1 rw4.n1 nM1 nN1, rw4.set (o2 := ⟨m2, o1.t, o1.s, o1.c, o1.l⟩) ⟨nm_is (d4.om _ (by simp)), rw4.k1.t, rw4.k1.s, rw4.k1.c0, rw4.k1.c1, rw4.k1.l0, rw4.k1.l1⟩⟩
                  · walk_at "rd"
                    exact ⟨⟨m1, o1.t, o1.s, o1.c, o1.l⟩, _, _, _, _, rfl, d4.set rw4.f1 rw4.n1 nM1 nN1, rw4.set (o2 := ⟨m1, o1.t, o1.s, o1.c, o1.l⟩) ⟨nm_is (d4.om _ (by simp)), rw4.k1.t, rw4.k1.s, rw4.k1.c0, rw4.k1.c1, rw4.k1.l0, rw4.k1.l1⟩⟩
              · walk_at "rd"
                exact ⟨o1, _, _, _, _, rfl, d4, rw4⟩
            · clear rw4 d4
              rintro σ' H5 ⟨o1, x8, x9, x10, x11, rfl, d5, rw5⟩
              have hR5 := rw5.hR
              have h05 := rw5.h0
              have h15 := rw5.h1
              walk_at "rd"
              intro x dx nx ndx nxd
              have nxb : x ≠ b := ne_bag d5.bag nx
              refine ⟨x, dx, o0, rfl, upd_same, rw5.k0, fun H6 fr hx => ⟨rfl, ?_⟩⟩
              have e6 := made_ext d5.bag nx ndx fr
              have d6 := d5.ext e6
              have rw6 := rw5.ext e6
              have hR6 := rw6.hR
              have h06 := rw6.h0
              have h16 := rw6.h1
              clear fr
              walk_at "rd"
              intro y dy ny ndy nyd
              refine ⟨y, dy, o1, rfl, upd_same, rw6.k1, fun H7 fr hy => ⟨rfl, ?_⟩⟩
              have e7 := made_ext d6.bag ny ndy fr
              have d7 := d6.ext e7
              have rw7 := rw6.ext e7
              have hR7 := rw7.hR
              have h07 := rw7.h0
              have h17 := rw7.h1
              have hx7 := e7.2 _ _ hx nxb
              clear fr hR5 h05 h15 hR6 h06 h16 d5 d6 rw5 rw6
              obtain ⟨md1, md2⟩ := meet_due rw7.k0.s rw7.k1.s
              walk_at "rd"
              refine ⟨r0, r1, o0, o1, rfl, h07, h17, ?_⟩
              walk_at "rd"
              refine ⟨x, y, dx, dy, o0, o1, rfl, hx7, hy, ?_⟩
              rw [md1]
              walk_at "rd"
              refine ⟨y, x, dy, dx, o1, o0, rfl, hy, hx7, ?_⟩
              rw [md2]
              walk_at "rd"
              refine ⟨x, y, dx, dy, o0, o1, rfl, hx7, hy, ?_⟩
              rw [md1]
              walk_at "rd"
              refine ⟨by show 3 ≤ sizeLine; decide, fun L nL => ?_⟩
              have e8 := ext_new (o := .lst [.bl (dueB o0 o1), .bl (dueB o0 o1), .bl (dueB o0 o1)]) d7.bag nL
              have d8 := d7.ext e8
              have rw8 := rw7.ext e8
              have hx8 := e8.2 _ _ hx7 nxb
              have nyb : y ≠ b := fun q => by
                subst q
                obtain ⟨u, v, q⟩ := d7.bag
                rw [hy] at q
                cases q
              have hy8 := e8.2 _ _ hy nyb
              have hL : (upd H7 L (.lst [.bl (dueB o0 o1), .bl (dueB o0 o1), .bl (dueB o0 o1)])) L = some (.lst [.bl (dueB o0 o1), .bl (dueB o0 o1), .bl (dueB o0 o1)]) := upd_same
              revert d8 rw8 hx8 hy8 hL
              generalize upd H7 L (.lst [.bl (dueB o0 o1), .bl (dueB o0 o1), .bl (dueB o0 o1)]) = H8
              intro d8 rw8 hx8 hy8 hL
              walk_at "rd"
              refine ⟨⟨_, SqL.of hL⟩, ?_⟩
              refine for_list (a := L) (xs := [.bl (dueB o0 o1), .bl (dueB o0 o1), .bl (dueB o0 o1)]) (fun _ σ' H' => ∃ x11, σ' = [some (.ref a), some (.int (0 + i)), some (.ref b), some (.ref M), some (.ref N), some (.int (0 + j)), some (.int z), some (.ref R), some (.ref x), some (.ref y), some (.bl (dueB o0 o1)), x11, none] ∧ H' = H8)
                ⟨_, rfl, rfl⟩ (fun _ _ _ _ ⟨_, _, e⟩ => by rw [e]; exact SqL.of hL) ?_ ?_
              · rintro k' v σ' H' hv ⟨x11, rfl, rfl⟩
                have ev : v = .bl (dueB o0 o1) := by simpa using List.mem_of_getElem? hv
                subst ev
                walk_at "rd"
                refine ⟨_, _, _, _, true, rfl, .ty _, .base (.bl _), kit_ty (by decide +kernel), ?_⟩
                walk_at "rd"
                refine iteNS rfl ?_
                walk_at "rd"
                first | rfl | exact ⟨_, rfl, rfl⟩
              · rintro σ' H' ⟨x11, rfl, rfl⟩
                walk_at "rd"
                refine ⟨x, x, dx, dx, o0, o0, rfl, hx8, hx8, ?_⟩
                rw [meet_self]
                walk_at "rd"
                refine iteNS rfl ?_
                walk_at "rd"
                refine ⟨y, y, dy, dy, o1, o1, rfl, hy8, hy8, ?_⟩
                rw [meet_self]
                walk_at "rd"
                refine iteNS rfl ?_
                walk_at "rd"
                refine ⟨by show 5 ≤ sizeLine; decide, fun q1 nq1 => ?_⟩
                have e9 := ext_new (o := .lst [.str o0.m, .str o0.t, .str o0.s, .int o0.c, .int o0.l]) d8.bag nq1
                have d9 := d8.ext e9
                have rw9 := rw8.ext e9
                have hy9 := e9.2 _ _ hy8 nyb
                have hR9 := rw9.hR
                have h09 := rw9.h0
                walk_at "rd"
                refine ⟨.list [.str o0.m, .str o0.t, .str o0.s, .int o0.c, .int o0.l], .list [.str o0.m, .str o0.t, .str o0.s, .int o0.c, .int o0.l], .lst (SqL.of upd_same) (.cons (.str _) (.cons (.str _) (.cons (.str _) (.cons (.int _) (.cons (.int _) .nil))))),
                  .lst (SqL.of h09) (.cons (.str _) (.cons (.str _) (.cons (.str _) (.cons (.int _) (.cons (.int _) .nil))))), row_shaped (nm_ltr rw9.k0.m) (nm_ltr (th_nm rw9.k0.t)) (side_ltr rw9.k0.s), row_shaped (nm_ltr rw9.k0.m) (nm_ltr (th_nm rw9.k0.t)) (side_ltr rw9.k0.s), ?_⟩
                rw [row_eqv (nm_ltr rw9.k0.m) (nm_ltr (th_nm rw9.k0.t)) (side_ltr rw9.k0.s)]
                walk_at "rd"
                refine ⟨by show 5 ≤ sizeLine; decide, fun q2 nq2 => ?_⟩
                have e10 := ext_new (o := .lst [.str o1.m, .str o1.t, .str o1.s, .int o1.c, .int o1.l]) d9.bag nq2
                have d10 := d9.ext e10
                have rw10 := rw9.ext e10
                have hR10 := rw10.hR
                have h110 := rw10.h1
                walk_at "rd"
                refine ⟨.list [.str o1.m, .str o1.t, .str o1.s, .int o1.c, .int o1.l], .list [.str o1.m, .str o1.t, .str o1.s, .int o1.c, .int o1.l], .lst (SqL.of upd_same) (.cons (.str _) (.cons (.str _) (.cons (.str _) (.cons (.int _) (.cons (.int _) .nil))))),
                  .lst (SqL.of h110) (.cons (.str _) (.cons (.str _) (.cons (.str _) (.cons (.int _) (.cons (.int _) .nil))))), row_shaped (nm_ltr rw10.k1.m) (nm_ltr (th_nm rw10.k1.t)) (side_ltr rw10.k1.s), row_shaped (nm_ltr rw10.k1.m) (nm_ltr (th_nm rw10.k1.t)) (side_ltr rw10.k1.s), ?_⟩
                rw [row_eqv (nm_ltr rw10.k1.m) (nm_ltr (th_nm rw10.k1.t)) (side_ltr rw10.k1.s)]
                walk_at "rd"
                exact ⟨_, _, _, _, _, _, _, rfl, d10⟩
        · rintro σ H ⟨x5, x6, x7, x8, x9, x10, x11, rfl, d⟩
          exact ⟨_, _, _, _, _, _, _, _, _, _, _, rfl, d.s⟩
    · rintro σ H ⟨x1, x2, x3, x4, x5, x6, x7, x8, x9, x10, x11, rfl, sm⟩
      walk_at "rd"
      exact k H
end
end KK

namespace KK
open PySem PySem.Spec PyProof.Rows L2
theorem all_mk {l : PySem.W.OpenLaw} {w : World} {K : PySem.W.Frag} {h : Heap} {mg : Str → Option Value} {fa : Addr} (X : K.In h) (G : h.Ns mainGlobals mg) (hfa : mg "law" = some (.ref fa))
    {C f_init p_sign f_sign f_isint f_whole f_isname f_isthing f_meets f_bag f_take f_of f_names f_far f_row f_due f_law : Addr} {r_sign : List Value} {t_Order_BUY : Nat} {t_Order_SELL : Nat} {oc_init : Value} {od_init : Option Addr} {an_init : Option Addr} {sl_init : Array (Option Value)} {kV_init : Value} {dc_init : Value} {pm_init : Value} {cd_init : Value} {ct_init : Value} {oc_sign : Value} {od_sign : Option Addr} {an_sign : Option Addr} {sl_sign : Array (Option Value)} {kV_sign : Value} {dc_sign : Value} {pm_sign : Value} {cd_sign : Value} {ct_sign : Value} {oc_isint : Value} {od_isint : Option Addr} {an_isint : Option Addr} {sl_isint : Array (Option Value)} {kV_isint : Value} {dc_isint : Value} {pm_isint : Value} {cd_isint : Value} {ct_isint : Value} {oc_whole : Value} {od_whole : Option Addr} {an_whole : Option Addr} {sl_whole : Array (Option Value)} {kV_whole : Value} {dc_whole : Value} {pm_whole : Value} {cd_whole : Value} {ct_whole : Value} {oc_isname : Value} {od_isname : Option Addr} {an_isname : Option Addr} {sl_isname : Array (Option Value)} {kV_isname : Value} {dc_isname : Value} {pm_isname : Value} {cd_isname : Value} {ct_isname : Value} {oc_isthing : Value} {od_isthing : Option Addr} {an_isthing : Option Addr} {sl_isthing : Array (Option Value)} {kV_isthing : Value} {dc_isthing : Value} {pm_isthing : Value} {cd_isthing : Value} {ct_isthing : Value} {oc_meets : Value} {od_meets : Option Addr} {an_meets : Option Addr} {sl_meets : Array (Option Value)} {kV_meets : Value} {dc_meets : Value} {pm_meets : Value} {cd_meets : Value} {ct_meets : Value} {oc_bag : Value} {od_bag : Option Addr} {an_bag : Option Addr} {sl_bag : Array (Option Value)} {kV_bag : Value} {dc_bag : Value} {pm_bag : Value} {cd_bag : Value} {ct_bag : Value} {oc_take : Value} {od_take : Option Addr} {an_take : Option Addr} {sl_take : Array (Option Value)} {kV_take : Value} {dc_take : Value} {pm_take : Value} {cd_take : Value} {ct_take : Value} {oc_of : Value} {od_of : Option Addr} {an_of : Option Addr} {sl_of : Array (Option Value)} {kV_of : Value} {dc_of : Value} {pm_of : Value} {cd_of : Value} {ct_of : Value} {oc_names : Value} {od_names : Option Addr} {an_names : Option Addr} {sl_names : Array (Option Value)} {kV_names : Value} {dc_names : Value} {pm_names : Value} {cd_names : Value} {ct_names : Value} {oc_far : Value} {od_far : Option Addr} {an_far : Option Addr} {sl_far : Array (Option Value)} {kV_far : Value} {dc_far : Value} {pm_far : Value} {cd_far : Value} {ct_far : Value} {oc_row : Value} {od_row : Option Addr} {an_row : Option Addr} {sl_row : Array (Option Value)} {kV_row : Value} {dc_row : Value} {pm_row : Value} {cd_row : Value} {ct_row : Value} {oc_due : Value} {od_due : Option Addr} {an_due : Option Addr} {sl_due : Array (Option Value)} {kV_due : Value} {dc_due : Value} {pm_due : Value} {cd_due : Value} {ct_due : Value} {oc_law : Value} {od_law : Option Addr} {an_law : Option Addr} {sl_law : Array (Option Value)} {kV_law : Value} {dc_law : Value} {pm_law : Value} {cd_law : Value} {ct_law : Value} {t_MOST : Nat} {t_MOST_COUNT : Nat} {t__CASH : Nat} {t__LETTERS : Nat} {t__LONGEST_NAME : Nat}
    (c_Order : PySem.W.nsIn K mainGlobals "Order" = some (some (.ref C)))
    (pg_Order : PySem.W.plainGet K C Str.empty = true)
    (hd_Order : PySem.W.hasDictIn K C = true)
    (po_Order : PySem.W.plainOver K C = true)
    (sa_Order : PySem.W.findIn K (.ref C) "__setattr__" = some (some (.builtin "object.__setattr__")))
    (mk_Order : PySem.W.makesIn K C = true)
    (kp_Order : PySem.W.keepIn K (.ref C) = true)
    (n_Order_member : PySem.W.findIn K (.ref C) "member" = some none)
    (n_Order_thing : PySem.W.findIn K (.ref C) "thing" = some none)
    (n_Order_side : PySem.W.findIn K (.ref C) "side" = some none)
    (n_Order_count : PySem.W.findIn K (.ref C) "count" = some none)
    (n_Order_limit : PySem.W.findIn K (.ref C) "limit" = some none)
    (rd_Order : PySem.W.readsIn K C (.type "type") = true)
    (ga_Order : PySem.W.specialIn K (.ref C) "__getattribute__" = some (some (.builtin "type.__getattribute__")))
    (v_Order_BUY : PySem.W.findCls K (.ref C) (.type "type") "BUY" = some (.val (.str "buy" t_Order_BUY)))
    (v_Order_SELL : PySem.W.findCls K (.ref C) (.type "type") "SELL" = some (.val (.str "sell" t_Order_SELL)))
    (a_init : PySem.W.findIn K (.ref C) "__init__" = some (some (.ref f_init)))
    (l_init : K.lookup f_init = some ⟨oc_init, od_init, .func (PySem.W.fnOf "__init__" "Order.__init__" (defArgs s_init) (defBody s_init) (defScope s_init) .none kV_init dc_init pm_init an_init cd_init ct_init), sl_init⟩)
    (c_init : PySem.W.codeIn K cd_init "Order.__init__" = true)
    (k_init : PySem.W.keepIn K (.ref f_init) = true)
    (i_init : PySem.W.isFn K (.ref f_init) = true)
    (pa_sign : PySem.W.findIn K (.ref C) "sign" = some (some (.ref p_sign)))
    (pt_sign : PySem.W.specialIn K (.ref p_sign) "__get__" = some (some (.builtin "property.__get__")))
    (pk_sign : PySem.W.takesIn K (.ref p_sign) = some true)
    (a_sign : PySem.W.recIn K p_sign "property" = some (.ref f_sign :: r_sign))
    (l_sign : K.lookup f_sign = some ⟨oc_sign, od_sign, .func (PySem.W.fnOf "sign" "Order.sign" (defArgs s_sign) (defBody s_sign) (defScope s_sign) .none kV_sign dc_sign pm_sign an_sign cd_sign ct_sign), sl_sign⟩)
    (c_sign : PySem.W.codeIn K cd_sign "Order.sign" = true)
    (k_sign : PySem.W.keepIn K (.ref f_sign) = true)
    (a_isint : PySem.W.nsIn K mainGlobals "is_integer" = some (some (.ref f_isint)))
    (l_isint : K.lookup f_isint = some ⟨oc_isint, od_isint, .func (PySem.W.fnOf "is_integer" "is_integer" (defArgs s_isint) (defBody s_isint) (defScope s_isint) .none kV_isint dc_isint pm_isint an_isint cd_isint ct_isint), sl_isint⟩)
    (c_isint : PySem.W.codeIn K cd_isint "is_integer" = true)
    (k_isint : PySem.W.keepIn K (.ref f_isint) = true)
    (a_whole : PySem.W.nsIn K mainGlobals "is_whole" = some (some (.ref f_whole)))
    (l_whole : K.lookup f_whole = some ⟨oc_whole, od_whole, .func (PySem.W.fnOf "is_whole" "is_whole" (defArgs s_whole) (defBody s_whole) (defScope s_whole) .none kV_whole dc_whole pm_whole an_whole cd_whole ct_whole), sl_whole⟩)
    (c_whole : PySem.W.codeIn K cd_whole "is_whole" = true)
    (k_whole : PySem.W.keepIn K (.ref f_whole) = true)
    (a_isname : PySem.W.nsIn K mainGlobals "is_name" = some (some (.ref f_isname)))
    (l_isname : K.lookup f_isname = some ⟨oc_isname, od_isname, .func (PySem.W.fnOf "is_name" "is_name" (defArgs s_isname) (defBody s_isname) (defScope s_isname) .none kV_isname dc_isname pm_isname an_isname cd_isname ct_isname), sl_isname⟩)
    (c_isname : PySem.W.codeIn K cd_isname "is_name" = true)
    (k_isname : PySem.W.keepIn K (.ref f_isname) = true)
    (a_isthing : PySem.W.nsIn K mainGlobals "is_thing_name" = some (some (.ref f_isthing)))
    (l_isthing : K.lookup f_isthing = some ⟨oc_isthing, od_isthing, .func (PySem.W.fnOf "is_thing_name" "is_thing_name" (defArgs s_isthing) (defBody s_isthing) (defScope s_isthing) .none kV_isthing dc_isthing pm_isthing an_isthing cd_isthing ct_isthing), sl_isthing⟩)
    (c_isthing : PySem.W.codeIn K cd_isthing "is_thing_name" = true)
    (k_isthing : PySem.W.keepIn K (.ref f_isthing) = true)
    (a_meets : PySem.W.nsIn K mainGlobals "meets" = some (some (.ref f_meets)))
    (l_meets : K.lookup f_meets = some ⟨oc_meets, od_meets, .func (PySem.W.fnOf "meets" "meets" (defArgs s_meets) (defBody s_meets) (defScope s_meets) .none kV_meets dc_meets pm_meets an_meets cd_meets ct_meets), sl_meets⟩)
    (c_meets : PySem.W.codeIn K cd_meets "meets" = true)
    (k_meets : PySem.W.keepIn K (.ref f_meets) = true)
    (a_bag : PySem.W.nsIn K mainGlobals "_law_bag" = some (some (.ref f_bag)))
    (l_bag : K.lookup f_bag = some ⟨oc_bag, od_bag, .func (PySem.W.fnOf "_law_bag" "_law_bag" (defArgs s_bag) (defBody s_bag) (defScope s_bag) .none kV_bag dc_bag pm_bag an_bag cd_bag ct_bag), sl_bag⟩)
    (c_bag : PySem.W.codeIn K cd_bag "_law_bag" = true)
    (k_bag : PySem.W.keepIn K (.ref f_bag) = true)
    (a_take : PySem.W.nsIn K mainGlobals "_law_take" = some (some (.ref f_take)))
    (l_take : K.lookup f_take = some ⟨oc_take, od_take, .func (PySem.W.fnOf "_law_take" "_law_take" (defArgs s_take) (defBody s_take) (defScope s_take) .none kV_take dc_take pm_take an_take cd_take ct_take), sl_take⟩)
    (c_take : PySem.W.codeIn K cd_take "_law_take" = true)
    (k_take : PySem.W.keepIn K (.ref f_take) = true)
    (a_of : PySem.W.nsIn K mainGlobals "_law_of" = some (some (.ref f_of)))
    (l_of : K.lookup f_of = some ⟨oc_of, od_of, .func (PySem.W.fnOf "_law_of" "_law_of" (defArgs s_of) (defBody s_of) (defScope s_of) .none kV_of dc_of pm_of an_of cd_of ct_of), sl_of⟩)
    (c_of : PySem.W.codeIn K cd_of "_law_of" = true)
    (k_of : PySem.W.keepIn K (.ref f_of) = true)
    (a_names : PySem.W.nsIn K mainGlobals "_law_names" = some (some (.ref f_names)))
    (l_names : K.lookup f_names = some ⟨oc_names, od_names, .func (PySem.W.fnOf "_law_names" "_law_names" (defArgs s_names) (defBody s_names) (defScope s_names) .none kV_names dc_names pm_names an_names cd_names ct_names), sl_names⟩)
    (c_names : PySem.W.codeIn K cd_names "_law_names" = true)
    (k_names : PySem.W.keepIn K (.ref f_names) = true)
    (a_far : PySem.W.nsIn K mainGlobals "_law_far" = some (some (.ref f_far)))
    (l_far : K.lookup f_far = some ⟨oc_far, od_far, .func (PySem.W.fnOf "_law_far" "_law_far" (defArgs s_far) (defBody s_far) (defScope s_far) .none kV_far dc_far pm_far an_far cd_far ct_far), sl_far⟩)
    (c_far : PySem.W.codeIn K cd_far "_law_far" = true)
    (k_far : PySem.W.keepIn K (.ref f_far) = true)
    (a_row : PySem.W.nsIn K mainGlobals "_law_row" = some (some (.ref f_row)))
    (l_row : K.lookup f_row = some ⟨oc_row, od_row, .func (PySem.W.fnOf "_law_row" "_law_row" (defArgs s_row) (defBody s_row) (defScope s_row) .none kV_row dc_row pm_row an_row cd_row ct_row), sl_row⟩)
    (c_row : PySem.W.codeIn K cd_row "_law_row" = true)
    (k_row : PySem.W.keepIn K (.ref f_row) = true)
    (a_due : PySem.W.nsIn K mainGlobals "_law_due" = some (some (.ref f_due)))
    (l_due : K.lookup f_due = some ⟨oc_due, od_due, .func (PySem.W.fnOf "_law_due" "_law_due" (defArgs s_due) (defBody s_due) (defScope s_due) .none kV_due dc_due pm_due an_due cd_due ct_due), sl_due⟩)
    (c_due : PySem.W.codeIn K cd_due "_law_due" = true)
    (k_due : PySem.W.keepIn K (.ref f_due) = true)
    (a_law : PySem.W.nsIn K mainGlobals "law" = some (some (.ref f_law)))
    (l_law : K.lookup f_law = some ⟨oc_law, od_law, .func (PySem.W.fnOf "law" "law" (defArgs s_law) (defBody s_law) (defScope s_law) .none kV_law dc_law pm_law an_law cd_law ct_law), sl_law⟩)
    (c_law : PySem.W.codeIn K cd_law "law" = true)
    (k_law : PySem.W.keepIn K (.ref f_law) = true)
    (g_MOST : PySem.W.nsIn K mainGlobals "MOST" = some (some (.int 1000000000000 t_MOST)))
    (g_MOST_COUNT : PySem.W.nsIn K mainGlobals "MOST_COUNT" = some (some (.int 1000000 t_MOST_COUNT)))
    (g__CASH : PySem.W.nsIn K mainGlobals "_CASH" = some (some (.str "cash" t__CASH)))
    (g__LETTERS : PySem.W.nsIn K mainGlobals "_LETTERS" = some (some (.str "abcdefghijklmnopqrstuvwxyz" t__LETTERS)))
    (g__LONGEST_NAME : PySem.W.nsIn K mainGlobals "_LONGEST_NAME" = some (some (.int 12 t__LONGEST_NAME)))
    (z_int : PySem.W.nsIn K mainGlobals "int" = some none)
    (z_bool : PySem.W.nsIn K mainGlobals "bool" = some none)
    (z_str : PySem.W.nsIn K mainGlobals "str" = some none)
    (z_len : PySem.W.nsIn K mainGlobals "len" = some none)
    (z_all : PySem.W.nsIn K mainGlobals "all" = some none)
    (z_isinstance : PySem.W.nsIn K mainGlobals "isinstance" = some none)
    (z_abs : PySem.W.nsIn K mainGlobals "abs" = some none)
    (z_range : PySem.W.nsIn K mainGlobals "range" = some none)
    (z_list : PySem.W.nsIn K mainGlobals "list" = some none)
    (z_enumerate : PySem.W.nsIn K mainGlobals "enumerate" = some none)
    (z_max : PySem.W.nsIn K mainGlobals "max" = some none)
    (z_min : PySem.W.nsIn K mainGlobals "min" = some none)
    : ∃ fd : FuncData, (∀ (s : Shared) (v : Value), BindsTo s fd ⟨[v], []⟩ [("script", v)]) ∧ ∀ base : Heap, K.In base → base.Ns mainGlobals mg → FnOk l.prog w K mg base CX0 7 fa fd ["script"] (spLaw K) := by
  have e := hfa.symm.trans (PySem.W.mg_of X G a_law)
  cases e
  have F_init := fun_mk (st := s_init) l_init c_init k_init
  have F_sign := fun_mk (st := s_sign) l_sign c_sign k_sign
  have F_isint := fun_mk (st := s_isint) l_isint c_isint k_isint
  have F_whole := fun_mk (st := s_whole) l_whole c_whole k_whole
  have F_isname := fun_mk (st := s_isname) l_isname c_isname k_isname
  have F_isthing := fun_mk (st := s_isthing) l_isthing c_isthing k_isthing
  have F_meets := fun_mk (st := s_meets) l_meets c_meets k_meets
  have F_bag := fun_mk (st := s_bag) l_bag c_bag k_bag
  have F_take := fun_mk (st := s_take) l_take c_take k_take
  have F_of := fun_mk (st := s_of) l_of c_of k_of
  have F_names := fun_mk (st := s_names) l_names c_names k_names
  have F_far := fun_mk (st := s_far) l_far c_far k_far
  have F_row := fun_mk (st := s_row) l_row c_row k_row
  have F_due := fun_mk (st := s_due) l_due c_due k_due
  have F_law := fun_mk (st := s_law) l_law c_law k_law
  have b_take := F_take.binds (ps := ["bag", "many"]) fun _ _ _ _ _ _ us hl => match us, hl with | [_, _], _ => rfl
  have b_of := F_of.binds (ps := ["bag", "some"]) fun _ _ _ _ _ _ us hl => match us, hl with | [_, _], _ => rfl
  have b_names := F_names.binds (ps := ["bag", "many"]) fun _ _ _ _ _ _ us hl => match us, hl with | [_, _], _ => rfl
  have b_far := F_far.binds (ps := ["bag", "most"]) fun _ _ _ _ _ _ us hl => match us, hl with | [_, _], _ => rfl
  have b_bag := F_bag.binds (ps := ["script", "at"]) fun _ _ _ _ _ _ us hl => match us, hl with | [_, _], _ => rfl
  have b_row := F_row.binds (ps := ["bag", "members", "things", "base"]) fun _ _ _ _ _ _ us hl => match us, hl with | [_, _, _, _], _ => rfl
  have b_due := F_due.binds (ps := ["one", "other"]) fun _ _ _ _ _ _ us hl => match us, hl with | [_, _], _ => rfl
  have b_isname := F_isname.binds (ps := ["thing"]) fun _ _ _ _ _ _ us hl => match us, hl with | [_], _ => rfl
  have b_isthing := F_isthing.binds (ps := ["thing"]) fun _ _ _ _ _ _ us hl => match us, hl with | [_], _ => rfl
  have b_isint := F_isint.binds (ps := ["thing"]) fun _ _ _ _ _ _ us hl => match us, hl with | [_], _ => rfl
  have b_whole := F_whole.binds (ps := ["thing", "low", "high"]) fun _ _ _ _ _ _ us hl => match us, hl with | [_, _, _], _ => rfl
  have b_init := F_init.binds (ps := ["self", "member", "thing", "side", "count", "limit"]) fun _ _ _ _ _ _ us hl => match us, hl with | [_, _, _, _, _, _], _ => rfl
  have b_sign := F_sign.binds (ps := ["self"]) fun _ _ _ _ _ _ us hl => match us, hl with | [_], _ => rfl
  have b_meets := F_meets.binds (ps := ["one", "other"]) fun _ _ _ _ _ _ us hl => match us, hl with | [_, _], _ => rfl
  have b_law := F_law.binds (ps := ["script"]) fun _ _ _ _ _ _ us hl => match us, hl with | [_], _ => rfl
  have g : ∀ {x : Str} {v : Value}, PySem.W.nsIn K mainGlobals x = some (some v) → mg x = some v := fun a => PySem.W.mg_of X G a
  have z : ∀ {x : Str}, PySem.W.nsIn K mainGlobals x = some none → mg x = none := fun a => PySem.W.mg_none_of X G a
  have TB : TxtB mg := ⟨z z_int, z z_abs, z z_len, z z_range, z z_list, z z_enumerate⟩
  have TO : TxtO K mg C := ⟨z z_int, z z_bool, z z_str, z z_len, z z_all, z z_isinstance, ⟨_, g g_MOST⟩, ⟨_, g g_MOST_COUNT⟩, ⟨_, g g__CASH⟩, ⟨_, g g__LETTERS⟩, ⟨_, g g__LONGEST_NAME⟩, g c_Order, ⟨pg_Order, hd_Order, po_Order, sa_Order⟩,
    fun f hf => by
      simp only [List.mem_cons, List.not_mem_nil, or_false] at hf
      rcases hf with rfl | rfl | rfl | rfl | rfl
      · exact n_Order_member
      · exact n_Order_thing
      · exact n_Order_side
      · exact n_Order_count
      · exact n_Order_limit,
    ⟨_, ⟨rd_Order, ga_Order⟩, ⟨_, v_Order_BUY, ⟨_, rfl⟩⟩, ⟨_, v_Order_SELL, ⟨_, rfl⟩⟩⟩⟩
  have TL : TxtL K mg C := { TO with b_range := z z_range, b_max := z z_max, b_min := z z_min }
  refine ⟨PySem.W.fnOf "law" "law" (defArgs s_law) (defBody s_law) (defScope s_law) .none kV_law dc_law pm_law an_law cd_law ct_law, fun s v => .of_eq rfl, fun base Kb Gb => ?_⟩
  let D_take : Def l.prog w K mg base "_law_take" 1 ["bag", "many"] spTake := ⟨_, _, ok_take F_take TB, g a_take, k_take, b_take⟩
  let D_of : Def l.prog w K mg base "_law_of" 2 ["bag", "some"] spOf := ⟨_, _, ok_of F_of TB D_take, g a_of, k_of, b_of⟩
  let D_far : Def l.prog w K mg base "_law_far" 2 ["bag", "most"] spFar := ⟨_, _, ok_far F_far D_take, g a_far, k_far, b_far⟩
  let D_bag : Def l.prog w K mg base "_law_bag" 1 ["script", "at"] (spBag K) := ⟨_, _, ok_bag F_bag TB, g a_bag, k_bag, b_bag⟩
  let D_names : Def l.prog w K mg base "_law_names" 3 ["bag", "many"] spNames := ⟨_, _, ok_names F_names TB D_take D_of, g a_names, k_names, b_names⟩
  let D_isname : Def l.prog w K mg base "is_name" 1 ["thing"] spIsName := ⟨_, _, ok_isname F_isname TO, g a_isname, k_isname, b_isname⟩
  let D_isthing : Def l.prog w K mg base "is_thing_name" 2 ["thing"] spIsThing := ⟨_, _, ok_isthing F_isthing TO D_isname, g a_isthing, k_isthing, b_isthing⟩
  let D_isint : Def l.prog w K mg base "is_integer" 1 ["thing"] spIsInt := ⟨_, _, ok_isint F_isint TO, g a_isint, k_isint, b_isint⟩
  let D_whole2 : Def l.prog w K mg base "is_whole" 2 ["thing", "low", "high"] spWhole := ⟨_, _, ok_whole F_whole TO D_isint, g a_whole, k_whole, b_whole⟩
  let D_sign : PDef l.prog w K mg base C "sign" 1 (spSign C) := ⟨_, _, _, ⟨pa_sign, pt_sign, pk_sign, ⟨_, a_sign⟩⟩, ok_sign F_sign TO, b_sign⟩
  let D_meets : Def l.prog w K mg base "meets" 3 ["one", "other"] (spMeets C) := ⟨_, _, ok_meets F_meets TO D_sign, g a_meets, k_meets, b_meets⟩
  let D_init : MDef l.prog w K mg base C 4 ["self", "member", "thing", "side", "count", "limit"] (spInit C) := ⟨_, _, ⟨mk_Order, a_init, i_init, kp_Order⟩, ok_init F_init TO D_isname D_isthing D_whole2, b_init⟩
  let D_row : Def l.prog w K mg base "_law_row" 3 ["bag", "members", "things", "base"] spRow := ⟨_, _, ok_row F_row D_take D_of, g a_row, k_row, b_row⟩
  let D_due : Def l.prog w K mg base "_law_due" 1 ["one", "other"] spDue := ⟨_, _, ok_due F_due, g a_due, k_due, b_due⟩
  exact ok_law F_law TL D_bag D_take D_of D_names D_far D_row D_due D_meets D_init
theorem walk {l : PySem.W.OpenLaw} {q : Program} {loose : List Str} {XP : (Str → Option Value) → Heap → Prop} {YP : World → Heap → Prop} {d : DefRec} {K : Params → PySem.W.Frag} (hn : l.most = some 63) (hdf : d.params.defaults = [])
    (hY : ∀ (w : World) (h : Heap), YP w h → (K w.params).In h)
    (F : ∀ (w : World) (mg : Str → Option Value) (fa : Addr) (h : Heap), (K w.params).In h → h.Ns mainGlobals mg → mg d.name = some (.ref fa) →
      ∃ fd : FuncData, (∀ (s : Shared) (u : Value), BindsTo s fd ⟨[u], []⟩ [("script", u)]) ∧ ∀ base : Heap, (K w.params).In base → base.Ns mainGlobals mg → FnOk l.prog w (K w.params) mg base CX0 7 fa fd ["script"] (spLaw (K w.params))) :
    PySem.W.WalkO q loose XP YP l.row.toRowW d [] (fun f vs => PySem.call f vs) :=
  L2.walk_of (n := 63) (k := 7) (x := "script") (CX := fun _ => CX0) (sp := fun w => spLaw (K w.params)) hn (by decide) hdf ⟨rfl, by decide, by decide⟩ hY F (fun _ _ a ns hl _ hS => ⟨a, ns, rfl, hS, hl, fun _ => rfl⟩) fun _ _ _ _ _ z => z
end KK
open PySem PySem.W PyProof.Rows
set_option maxRecDepth 100000 in
set_option maxHeartbeats 0 in
theorem PySem.Challenge.cw_coveredday_k02_orders_that_meet_holds : PySem.Challenge.rw_coveredday_k02_orders_that_meet.Holds := by
  w_on; o_law; k_head; (case hw => w_witness2)
  k_fill
  refine KK.walk (l := PySem.Challenge.rw_coveredday_k02_orders_that_meet) rfl rfl (fun w h Y => PySem.W.kIn_of Y) ?F
  case F =>
    intro w mg fa h KX G hmg
    refine' KK.all_mk KX G hmg ?c_Order ?pg_Order ?hd_Order ?po_Order ?sa_Order ?mk_Order ?kp_Order ?n_Order_member ?n_Order_thing ?n_Order_side ?n_Order_count ?n_Order_limit ?rd_Order ?ga_Order ?v_Order_BUY ?v_Order_SELL ?a_init ?l_init ?c_init ?k_init ?i_init ?pa_sign ?pt_sign ?pk_sign ?a_sign ?l_sign ?c_sign ?k_sign ?a_isint ?l_isint ?c_isint ?k_isint ?a_whole ?l_whole ?c_whole ?k_whole ?a_isname ?l_isname ?c_isname ?k_isname ?a_isthing ?l_isthing ?c_isthing ?k_isthing ?a_meets ?l_meets ?c_meets ?k_meets ?a_bag ?l_bag ?c_bag ?k_bag ?a_take ?l_take ?c_take ?k_take ?a_of ?l_of ?c_of ?k_of ?a_names ?l_names ?c_names ?k_names ?a_far ?l_far ?c_far ?k_far ?a_row ?l_row ?c_row ?k_row ?a_due ?l_due ?c_due ?k_due ?a_law ?l_law ?c_law ?k_law ?g_MOST ?g_MOST_COUNT ?g__CASH ?g__LETTERS ?g__LONGEST_NAME ?z_int ?z_bool ?z_str ?z_len ?z_all ?z_isinstance ?z_abs ?z_range ?z_list ?z_enumerate ?z_max ?z_min
    (case c_Order => k_is)
    (case pg_Order => k_is)
    (case hd_Order => k_is)
    (case po_Order => k_is)
    (case sa_Order => k_is)
    (case mk_Order => k_is)
    (case kp_Order => k_is)
    (case n_Order_member => k_is)
    (case n_Order_thing => k_is)
    (case n_Order_side => k_is)
    (case n_Order_count => k_is)
    (case n_Order_limit => k_is)
    (case rd_Order => k_is)
    (case ga_Order => k_is)
    (case v_Order_BUY => k_is)
    (case v_Order_SELL => k_is)
    (case a_init => k_is)
    (case l_init => k_is)
    (case c_init => k_is)
    (case k_init => k_is)
    (case i_init => k_is)
    (case pa_sign => k_is)
    (case pt_sign => k_is)
    (case pk_sign => k_is)
    (case a_sign => k_is)
    (case l_sign => k_is)
    (case c_sign => k_is)
    (case k_sign => k_is)
    (case a_isint => k_is)
    (case l_isint => k_is)
    (case c_isint => k_is)
    (case k_isint => k_is)
    (case a_whole => k_is)
    (case l_whole => k_is)
    (case c_whole => k_is)
    (case k_whole => k_is)
    (case a_isname => k_is)
    (case l_isname => k_is)
    (case c_isname => k_is)
    (case k_isname => k_is)
    (case a_isthing => k_is)
    (case l_isthing => k_is)
    (case c_isthing => k_is)
    (case k_isthing => k_is)
    (case a_meets => k_is)
    (case l_meets => k_is)
    (case c_meets => k_is)
    (case k_meets => k_is)
    (case a_bag => k_is)
    (case l_bag => k_is)
    (case c_bag => k_is)
    (case k_bag => k_is)
    (case a_take => k_is)
    (case l_take => k_is)
    (case c_take => k_is)
    (case k_take => k_is)
    (case a_of => k_is)
    (case l_of => k_is)
    (case c_of => k_is)
    (case k_of => k_is)
    (case a_names => k_is)
    (case l_names => k_is)
    (case c_names => k_is)
    (case k_names => k_is)
    (case a_far => k_is)
    (case l_far => k_is)
    (case c_far => k_is)
    (case k_far => k_is)
    (case a_row => k_is)
    (case l_row => k_is)
    (case c_row => k_is)
    (case k_row => k_is)
    (case a_due => k_is)
    (case l_due => k_is)
    (case c_due => k_is)
    (case k_due => k_is)
    (case a_law => k_is)
    (case l_law => k_is)
    (case c_law => k_is)
    (case k_law => k_is)
    (case g_MOST => k_is)
    (case g_MOST_COUNT => k_is)
    (case g__CASH => k_is)
    (case g__LETTERS => k_is)
    (case g__LONGEST_NAME => k_is)
    (case z_int => k_is)
    (case z_bool => k_is)
    (case z_str => k_is)
    (case z_len => k_is)
    (case z_all => k_is)
    (case z_isinstance => k_is)
    (case z_abs => k_is)
    (case z_range => k_is)
    (case z_list => k_is)
    (case z_enumerate => k_is)
    (case z_max => k_is)
    (case z_min => k_is)
