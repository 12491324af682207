import PyProof.Rows.All
import Wide.All
import OpenK.AllK
import Wide.FinOn
import HandS.ForMost
import HandS.Walk
import HandS.Style
import HandS.Strs
import HandS.Conv
import HandS.Base
import HandS.Call
import HandS.Words
import HandS.List
import HandS.Lambda
import HandS.Exc
import HandS.ExcOwn
import HandS.WordsExc
import HandS.CallSlots
import HandS.Property
import HandS.ExcInit
import HandS.ExcField
import HandS.TryOnly
import HandS.IsInst
import HandS.TupAny
import HandS.TupMul
import HandS.Text
import HandS.SlotsOwn
import HandS.Iter
import HandS.Comp
import HandS.More
import HandS.Dict
import HandS.Zip
import HandS.ExcIs
import HandS.Deep
import HandS.MakeKwOnly
import HandS.ClsMeth
import HandS.Star
import HandS.IterVal
import HandS.CallLocal
import KE.KOwnIter
import HandS.Wide
import HandS.Zip0
import HandS.Small
import HandS.RaiseMore
import PyProof.ExcBaseAll.ValueError
import KE.KExcIs
import HandS.Defaults
import KE.KDictZip
import PyProof.NeKinds
import PyProof.EqKinds
import PyProof.CollectIter
import PyProof.TupleOfGen
import HandS.ExcValue
import PyProof.WalksMore
import PyProof.Rows.SumAny
import KE.KOpsOwn
import HandS.Codes
import PyProof.ListStr
import HandS.DictComp
import HandS.Ends
import PyProof.ReprRoads
import PyProof.CallFns
import PyProof.StrLawsRepr
import HandS.SortKw
import KE.SortKeyHeap
import HandS.ListItems
import HandS.NoneIn
import HandS.SortInts
import KE.SortData
import HandS.OwnIter
import PySem.Challenge.RW_coveredday_k03_whole_book_by_a_plain_lis
import HandS.MakeKw
import HandS.EndTab
set_option Elab.async false
set_option linter.all false
set_option maxRecDepth 100000
set_option maxHeartbeats 0
namespace RS
open PySem PySem.Spec PyProof.Rows L2
/-! ### the unlike texts among some -/
section
variable {prog : Program} {w : World} {A : Around} {R : Result → Shared → Prop} {I S : Addr} {fp wr : List Addr} {G : Array GenState → Array GenState → Prop} {n : Nat} {P : Nat → Value → Prop} {St : Nat → Shared → Prop}
end
section
variable {prog : Program} {w : World} {A : Around} {E : Value → Shared → Prop} {s : Shared}
end
section
variable {X : Cx} {a : Expr} {ta : TE} {p p2 q pos : Pos}
end
end RS

set_option Elab.async false
set_option linter.all false
set_option maxRecDepth 100000
/-! data in place of heaps: what a value stands for, and the state of a def's body by data alone -/
namespace DL
open PySem PySem.Spec PyProof.Rows L2
inductive D where
  | non | bl (b : Bool) | int (i : Int) | str (x : Str) | ty (n : String) | adr (a : Addr)
  | lst (xs : List D) | ro (xs : List D) | tup (xs : List D) | rot (xs : List D) | obj (C : Addr) (fs : List (Str × D)) | dT (kvs : List (List Key × D)) | dK (kvs : List (Key × D))
  | exc (a : Addr) (cls : Value) (dd : Option Addr) (C : Addr) (fs : Option (List (Str × D))) | gho (vs : List V) (ds : List D)
mutual
/-- the value v stands for the data d, in the part F of the heap that never changes -/
inductive Rep (K : PySem.W.Frag) (F : Hp) : V → D → Prop
  | non : Rep K F .non .non
  | bl (b : Bool) : Rep K F (.bl b) (.bl b)
  | int (i : Int) : Rep K F (.int i) (.int i)
  | str {x : Str} (k : PyData.strOk x = true) : Rep K F (.str x) (.str x)
  | ty (n : String) : Rep K F (.ty n) (.ty n)
  | adr (a : Addr) : Rep K F (.ref a) (.adr a)
  | lst {p : Addr} {vs : List V} {ds : List D} (s : F p = some (.lst vs)) (h : RepL K F vs ds) : Rep K F (.ref p) (.lst ds)
  | ro {p : Addr} {vs : List V} {ds : List D} (s : SqL K F p vs) (h : RepL K F vs ds) : Rep K F (.ref p) (.ro ds)
  | tup {p : Addr} {vs : List V} {ds : List D} (s : F p = some (.tup vs)) (h : RepL K F vs ds) : Rep K F (.ref p) (.tup ds)
  /-- a tuple whose whole object is known: it has no dict -/
  | rot {p : Addr} {vs : List V} {ds : List D} {ob : Obj} (s : F p = some (.frz ob (.tup vs))) (hc : ob.cls = .type "tuple") (hd : ob.dict = none) (h : RepL K F vs ds) : Rep K F (.ref p) (.rot ds)
  | obj {p C dx : Addr} {vs : List (Str × V)} {fs : List (Str × D)} (s : F p = some (.ins C dx vs)) (h : RepF K F vs fs) : Rep K F (.ref p) (.obj C fs)
  | dT {p : Addr} {vs : List (List Key × V)} {ds : List (List Key × D)} (s : Rd F p (.dT vs)) (h : RepT K F vs ds) : Rep K F (.ref p) (.dT ds)
  | dK {p : Addr} {vs : List (Key × V)} {ds : List (Key × D)} (s : Rd F p (.dK vs)) (h : RepK K F vs ds) : Rep K F (.ref p) (.dK ds)
  | exc0 {a C : Addr} : Rep K F (.ref a) (.exc a (.ref C) none C none)
  | exc {a C dd : Addr} {vs : List (Str × V)} {fs : List (Str × D)} (s : F dd = some (.xd vs)) (h : RepF K F vs fs) : Rep K F (.ref a) (.exc a (.ref C) (some dd) C (some fs))
  /-- several values that are walked together -/
  | gho {vs : List V} {ds : List D} (h : RepL K F vs ds) : Rep K F (.int 0) (.gho vs ds)
inductive RepL (K : PySem.W.Frag) (F : Hp) : List V → List D → Prop
  | nil : RepL K F [] []
  | cons {v : V} {d : D} {vs : List V} {ds : List D} (h : Rep K F v d) (t : RepL K F vs ds) : RepL K F (v :: vs) (d :: ds)
inductive RepF (K : PySem.W.Frag) (F : Hp) : List (Str × V) → List (Str × D) → Prop
  | nil : RepF K F [] []
  | cons {n : Str} {v : V} {d : D} {vs : List (Str × V)} {ds : List (Str × D)} (h : Rep K F v d) (t : RepF K F vs ds) : RepF K F ((n, v) :: vs) ((n, d) :: ds)
inductive RepT (K : PySem.W.Frag) (F : Hp) : List (List Key × V) → List (List Key × D) → Prop
  | nil : RepT K F [] []
  | cons {n : List Key} {v : V} {d : D} {vs : List (List Key × V)} {ds : List (List Key × D)} (h : Rep K F v d) (t : RepT K F vs ds) : RepT K F ((n, v) :: vs) ((n, d) :: ds)
inductive RepK (K : PySem.W.Frag) (F : Hp) : List (Key × V) → List (Key × D) → Prop
  | nil : RepK K F [] []
  | cons {n : Key} {v : V} {d : D} {vs : List (Key × V)} {ds : List (Key × D)} (h : Rep K F v d) (t : RepK K F vs ds) : RepK K F ((n, v) :: vs) ((n, d) :: ds)
end
theorem sqt_mono {K : PySem.W.Frag} {F F' : Hp} {a : Addr} {xs : List V} (e : Same F F') (h : SqT K F a xs) : SqT K F' a xs := by
  rcases h with (h | ⟨o, h⟩) | h
  · exact .inl (.inl (e _ _ h))
  · exact .inl (.inr ⟨o, e _ _ h⟩)
  · exact .inr h
theorem rd_mono {F F' : Hp} {a : Addr} {u : HO} (e : Same F F') (h : Rd F a u) : Rd F' a u := by
  rcases h with h | ⟨o, h⟩
  · exact .inl (e _ _ h)
  · exact .inr ⟨o, e _ _ h⟩
section
variable {K : PySem.W.Frag} {F F' : Hp}
mutual
theorem Rep.mono (e : Same F F') : ∀ {v : V} {d : D}, Rep K F v d → Rep K F' v d
  | _, _, .non => .non
  | _, _, .bl b => .bl b
  | _, _, .int i => .int i
  | _, _, .str k => .str k
  | _, _, .ty n => .ty n
  | _, _, .adr a => .adr a
  | _, _, .lst s h => .lst (e _ _ s) (h.mono e)
  | _, _, .ro s h => .ro (e.seq s) (h.mono e)
  | _, _, .tup s h => .tup (e _ _ s) (h.mono e)
  | _, _, .rot s hc hd h => .rot (e _ _ s) hc hd (h.mono e)
  | _, _, .obj s h => .obj (e _ _ s) (h.mono e)
  | _, _, .dT s h => .dT (rd_mono e s) (h.mono e)
  | _, _, .dK s h => .dK (rd_mono e s) (h.mono e)
  | _, _, .exc0 => .exc0
  | _, _, .exc s h => .exc (e _ _ s) (h.mono e)
  | _, _, .gho h => .gho (h.mono e)
theorem RepL.mono (e : Same F F') : ∀ {vs : List V} {ds : List D}, RepL K F vs ds → RepL K F' vs ds
  | _, _, .nil => .nil
  | _, _, .cons h t => .cons (h.mono e) (t.mono e)
theorem RepF.mono (e : Same F F') : ∀ {vs : List (Str × V)} {ds : List (Str × D)}, RepF K F vs ds → RepF K F' vs ds
  | _, _, .nil => .nil
  | _, _, .cons h t => .cons (h.mono e) (t.mono e)
theorem RepT.mono (e : Same F F') : ∀ {vs : List (List Key × V)} {ds : List (List Key × D)}, RepT K F vs ds → RepT K F' vs ds
  | _, _, .nil => .nil
  | _, _, .cons h t => .cons (h.mono e) (t.mono e)
theorem RepK.mono (e : Same F F') : ∀ {vs : List (Key × V)} {ds : List (Key × D)}, RepK K F vs ds → RepK K F' vs ds
  | _, _, .nil => .nil
  | _, _, .cons h t => .cons (h.mono e) (t.mono e)
end
end
end DL

set_option Elab.async false
set_option linter.all false
set_option maxRecDepth 100000
namespace DL
open PySem PySem.Spec PyProof.Rows L2
/-- what a changing object holds -/
inductive OC where
  | lst (ds : List D) | ins (C : Addr) (fs : List (Str × D)) | dT (kvs : List (List Key × D)) | dK (kvs : List (Key × D))
  /-- the table of a code object, whose code objects all bear the name q -/
  | tab (P : Addr) (q : Str)
def OC.toD : OC → D
  | .lst ds => .lst ds
  | .ins C fs => .obj C fs
  | .dT kvs => .dT kvs
  | .dK kvs => .dK kvs
  | .tab P _ => .adr P
/-- a value: data that never changes, or an object of the body's own that may change -/
inductive DV where
  | d (x : D) | own (o : OC)
def DV.toD : DV → D
  | .d x => x
  | .own o => o.toD
abbrev DSt := List (Option DV)
inductive Hold where
  | s (i : Nat) | t (n : Nat)
  deriving DecidableEq
/-- the frame: the slots of the arguments that may change, their addresses, the heaps at the entry -/
structure Fc where
  sl : List Nat
  ad : List Addr
  F0 : Hp
  H0 : Hp
def OwnRep (K : PySem.W.Frag) (F H : Hp) (p : Addr) : OC → Prop
  | .lst ds => ∃ vs, H p = some (.lst vs) ∧ RepL K F vs ds
  | .ins C fs => ∃ dx vs, H p = some (.ins C dx vs) ∧ RepF K F vs fs
  | .dT kvs => ∃ vs, H p = some (.dT vs) ∧ RepT K F vs kvs
  | .dK kvs => ∃ vs, H p = some (.dK vs) ∧ RepK K F vs kvs
  | .tab P q => P = p ∧ ∃ ps : Array Value, H p = some (.tbl ps) ∧ TriplesOk ps.toList ∧ ∀ (pos : Pos) (cv : Value), codeAmong pos ps.toList = some cv → ∃ c, cv = .ref c ∧ F c = some (LamX.CodeO c q)
/-- an address of the body's own: made since the entry, or an argument's -/
def NewAt (c : Fc) (h : Hold) (p : Addr) : Prop := c.H0 p = none ∨ (p ∈ c.ad ∧ ∃ i, h = .s i ∧ i ∈ c.sl)
def RepV (K : PySem.W.Frag) (c : Fc) (F H : Hp) (ow : Addr → Option Hold) (h : Hold) (v : V) : DV → Prop
  | .d x => Rep K F v x
  | .own o => ∃ p, v = .ref p ∧ ow p = some h ∧ F p = none ∧ NewAt c h p ∧ OwnRep K F H p o
def RepTmp (K : PySem.W.Frag) (c : Fc) (F H : Hp) (ow : Addr → Option Hold) : List (V × DV) → Prop
  | [] => True
  | (v, x) :: r => RepV K c F H ow (.t r.length) v x ∧ RepTmp K c F H ow r
structure SttF (K : PySem.W.Frag) (c : Fc) (F : Hp) (ow : Addr → Option Hold) (δ : DSt) (tmp : List (V × DV)) (σ : L2.St) (H : Hp) : Prop where
  fh : Same F H
  f0 : Same c.F0 F
  fn : ∀ a, F a ≠ none → c.F0 a ≠ none ∨ c.H0 a = none
  fr : ∀ a o, c.H0 a = some o → a ∉ c.ad → H a = some o
  up : ∀ a, H a = none → c.H0 a = none
  len : σ.length = δ.length
  sl : ∀ (i : Nat) (x : DV), δ[i]? = some (some x) → ∃ v, σ[i]? = some (some v) ∧ RepV K c F H ow (.s i) v x
  tm : RepTmp K c F H ow tmp
  ps : ∀ (k i : Nat) (p : Addr), c.sl[k]? = some i → c.ad[k]? = some p → σ[i]? = some (some (.ref p))
def Stt (K : PySem.W.Frag) (c : Fc) (δ : DSt) (tmp : List (V × DV)) (σ : L2.St) (H : Hp) : Prop := ∃ F ow, SttF K c F ow δ tmp σ H
/-- an operation that makes new objects alone -/
structure Ext (F H F' H' : Hp) : Prop where
  f : Same F F'
  h : Same H H'
  fh : Same F' H'
  nw : ∀ a, F' a ≠ none → F a ≠ none ∨ H a = none
theorem Ext.refl {F H : Hp} (s : Same F H) : Ext F H F H := ⟨Same.refl _, Same.refl _, s, fun _ h => .inl h⟩
theorem Ext.trans {F H F1 H1 F2 H2 : Hp} (a : Ext F H F1 H1) (b : Ext F1 H1 F2 H2) : Ext F H F2 H2 :=
  ⟨a.f.trans b.f, a.h.trans b.h, b.fh, fun x q => (b.nw x q).elim (a.nw x) fun z => .inr (a.h.free z)⟩
theorem same_upd {H H' : Hp} {p : Addr} {o : HO} (s : Same H H') (n : H' p = none) : Same H (upd H' p o) := fun b u e => by
  rw [upd_ne (ne_of_none (s _ _ e) n)]
  exact s _ _ e
theorem same_upd2 {F H : Hp} {p : Addr} {o : HO} (s : Same F H) : Same (upd F p o) (upd H p o) := fun b u e => by
  by_cases q : b = p
  · subst q
    rw [upd_same] at e ⊢
    exact e
  · rw [upd_ne q] at e ⊢
    exact s _ _ e
theorem same_upd1 {F H : Hp} {p : Addr} {o : HO} (s : Same F H) (e : H p = some o) : Same (upd F p o) H := fun b u q => by
  by_cases z : b = p
  · subst z
    rw [upd_same] at q
    rw [e]
    exact q
  · rw [upd_ne z] at q
    exact s _ _ q
/-- a new object, frozen at once -/
theorem Ext.new {F H : Hp} {p : Addr} {o : HO} (s : Same F H) (n : H p = none) : Ext F H (upd F p o) (upd H p o) :=
  ⟨same_upd (Same.refl F) (s.free n), same_upd (Same.refl H) n, same_upd2 s, fun a q => by
    by_cases z : a = p
    · subst z
      exact .inr n
    · rw [upd_ne z] at q
      exact .inl q⟩
/-- a new object, not frozen -/
theorem Ext.newH {F H : Hp} {p : Addr} {o : HO} (s : Same F H) (n : H p = none) : Ext F H F (upd H p o) :=
  ⟨Same.refl F, same_upd (Same.refl H) n, same_upd s n, fun _ q => .inl q⟩
section
variable {K : PySem.W.Frag} {c : Fc} {F F' H H' : Hp} {ow ow' : Addr → Option Hold} {δ : DSt} {tmp : List (V × DV)} {σ : L2.St} {v : V} {x : DV} {d : D} {o : OC} {h : Hold} {p : Addr} {i : Nat}
theorem OwnRep.has (q : OwnRep K F H p o) : H p ≠ none := by
  cases o with
  | lst ds => obtain ⟨vs, e, _⟩ := q; rw [e]; exact fun z => nomatch z
  | ins C fs => obtain ⟨dx, vs, e, _⟩ := q; rw [e]; exact fun z => nomatch z
  | dT kvs => obtain ⟨vs, e, _⟩ := q; rw [e]; exact fun z => nomatch z
  | dK kvs => obtain ⟨vs, e, _⟩ := q; rw [e]; exact fun z => nomatch z
  | tab P r => obtain ⟨_, vs, e, _⟩ := q; rw [e]; exact fun z => nomatch z
theorem OwnRep.mono (q : OwnRep K F H p o) (f : Same F F') (e : H' p = H p) : OwnRep K F' H' p o := by
  cases o with
  | lst ds => obtain ⟨vs, z, r⟩ := q; exact ⟨vs, e.trans z, r.mono f⟩
  | ins C fs => obtain ⟨dx, vs, z, r⟩ := q; exact ⟨dx, vs, e.trans z, r.mono f⟩
  | dT kvs => obtain ⟨vs, z, r⟩ := q; exact ⟨vs, e.trans z, r.mono f⟩
  | dK kvs => obtain ⟨vs, z, r⟩ := q; exact ⟨vs, e.trans z, r.mono f⟩
  | tab P r => obtain ⟨a, vs, z, t, h⟩ := q; exact ⟨a, vs, e.trans z, t, fun pos cv k => let ⟨c, e1, e2⟩ := h pos cv k; ⟨c, e1, f _ _ e2⟩⟩
theorem Same.at {p : Addr} (s : Same H H') (n : H p ≠ none) : H' p = H p := by
  cases q : H p with
  | none => exact absurd q n
  | some u => exact s _ _ q
theorem RepV.ext (q : RepV K c F H ow h v x) (e : Ext F H F' H') : RepV K c F' H' ow h v x := by
  cases x with
  | d y => exact Rep.mono e.f q
  | own o =>
    obtain ⟨p, rfl, a, n, w, r⟩ := q
    refine ⟨p, rfl, a, ?_, w, r.mono e.f (Same.at e.h r.has)⟩
    cases z : F' p with
    | none => rfl
    | some u =>
      rcases e.nw p (by rw [z]; exact fun q => nomatch q) with y | y
      · exact absurd n y
      · exact absurd y r.has
theorem RepTmp.ext (e : Ext F H F' H') : ∀ {tmp : List (V × DV)}, RepTmp K c F H ow tmp → RepTmp K c F' H' ow tmp
  | [], _ => True.intro
  | (_, _) :: _, q => ⟨q.1.ext e, RepTmp.ext e q.2⟩
theorem SttF.ext (S : SttF K c F ow δ tmp σ H) (e : Ext F H F' H') : SttF K c F' ow δ tmp σ H' :=
  ⟨e.fh, S.f0.trans e.f, fun a q => (e.nw a q).elim (S.fn a) fun z => .inr (S.up a z), fun a o q n => e.h _ _ (S.fr a o q n), fun a q => S.up a (e.h.free q), S.len,
    fun i x q => let ⟨v, e1, e2⟩ := S.sl i x q; ⟨v, e1, e2.ext e⟩, RepTmp.ext e S.tm, S.ps⟩
theorem SttF.push (S : SttF K c F ow δ tmp σ H) (r : Rep K F v d) : SttF K c F ow δ ((v, .d d) :: tmp) σ H := { S with tm := ⟨r, S.tm⟩ }
theorem SttF.pop (S : SttF K c F ow δ ((v, x) :: tmp) σ H) : SttF K c F ow δ tmp σ H := { S with tm := S.tm.2 }
theorem SttF.top (S : SttF K c F ow δ ((v, .d d) :: tmp) σ H) : Rep K F v d := S.tm.1
/-- the holder of one address changes -/
def owSet (ow : Addr → Option Hold) (p : Addr) (h : Hold) : Addr → Option Hold := fun a => if a = p then some h else ow a
theorem RepV.reown (q : RepV K c F H ow h v x) (n : ∀ p, v = .ref p → ow p = some h → H p ≠ none → ow' p = ow p) : RepV K c F H ow' h v x := by
  cases x with
  | d y => exact q
  | own o =>
    obtain ⟨p, rfl, a, b, w, r⟩ := q
    exact ⟨p, rfl, (n p rfl a r.has).trans a, b, w, r⟩
theorem RepTmp.reown (n : ∀ (k : Nat) p, k < tmp.length → ow p = some (.t k) → H p ≠ none → ow' p = ow p) (q : RepTmp K c F H ow tmp) : RepTmp K c F H ow' tmp := by
  induction tmp with
  | nil => exact True.intro
  | cons a r ih =>
    obtain ⟨v, x⟩ := a
    exact ⟨q.1.reown fun p _ e z => n _ p (Nat.lt_succ_self _) e z, ih (fun k p hk e z => n k p (Nat.lt_succ_of_lt hk) e z) q.2⟩
theorem owSet_ne {p a : Addr} (n : a ≠ p) : owSet ow p h a = ow a := if_neg n
theorem owSet_at {p : Addr} : owSet ow p h p = some h := if_pos rfl
theorem SttF.reown (S : SttF K c F ow δ tmp σ H) (ns : ∀ (k : Nat) p, ow p = some (.s k) → H p ≠ none → ow' p = ow p) (nt : ∀ (k : Nat) p, k < tmp.length → ow p = some (.t k) → H p ≠ none → ow' p = ow p) : SttF K c F ow' δ tmp σ H :=
  { S with sl := fun i x q => let ⟨v, e1, e2⟩ := S.sl i x q; ⟨v, e1, e2.reown fun p _ e z => ns i p e z⟩, tm := RepTmp.reown nt S.tm }
/-- a new object of the body's own -/
theorem SttF.pushNew {ob : HO} (S : SttF K c F ow δ tmp σ H) (n : H p = none) (r : OwnRep K F (upd H p ob) p o) : SttF K c F (owSet ow p (.t tmp.length)) δ ((.ref p, .own o) :: tmp) σ (upd H p ob) := by
  have S1 := S.reown (ow' := owSet ow p (.t tmp.length)) (fun k a _ z => owSet_ne fun e => z (by rw [e]; exact n)) (fun k a _ _ z => owSet_ne fun e => z (by rw [e]; exact n))
  have S2 := S1.ext (Ext.newH (o := ob) S.fh n)
  refine { S2 with tm := ⟨⟨p, rfl, owSet_at, ?_, .inl (S.up _ n), r⟩, S2.tm⟩ }
  cases q : F p with
  | none => rfl
  | some u => rw [S.fh _ _ q] at n; cases n
/-- what is on top of the stack will change no more -/
theorem OwnRep.freeze (q : OwnRep K F H p o) (n : F p = none) (s : Same F H) : ∃ u : HO, H p = Option.some u ∧ Rep K (upd F p u) (.ref p) o.toD := by
  cases o with
  | lst ds => obtain ⟨vs, e, r⟩ := q; exact ⟨_, e, .lst upd_same (r.mono (same_upd (Same.refl F) n))⟩
  | ins C fs => obtain ⟨dx, vs, e, r⟩ := q; exact ⟨_, e, .obj upd_same (r.mono (same_upd (Same.refl F) n))⟩
  | dT kvs => obtain ⟨vs, e, r⟩ := q; exact ⟨_, e, .dT (.inl upd_same) (r.mono (same_upd (Same.refl F) n))⟩
  | dK kvs => obtain ⟨vs, e, r⟩ := q; exact ⟨_, e, .dK (.inl upd_same) (r.mono (same_upd (Same.refl F) n))⟩
  | tab P r => obtain ⟨a, vs, e, _⟩ := q; subst a; exact ⟨_, e, .adr _⟩
/-- the frozen part grows by an object that one holder has: all other holders keep theirs -/
theorem RepV.frz {u : HO} (q : RepV K c F H ow h v x) (n : F p = none) (ne : ∀ a, v = .ref a → ow a = some h → a ≠ p) : RepV K c (upd F p u) H ow h v x := by
  have s : Same F (upd F p u) := same_upd (Same.refl F) n
  cases x with
  | d y => exact Rep.mono s q
  | own o =>
    obtain ⟨a, rfl, e, b, w, r⟩ := q
    exact ⟨a, rfl, e, by rw [upd_ne (ne a rfl e)]; exact b, w, r.mono s rfl⟩
theorem RepTmp.frz {u : HO} (n : F p = none) (ne : ∀ (k : Nat) a, k < tmp.length → ow a = some (.t k) → a ≠ p) (q : RepTmp K c F H ow tmp) : RepTmp K c (upd F p u) H ow tmp := by
  induction tmp with
  | nil => exact True.intro
  | cons a r ih =>
    obtain ⟨v, x⟩ := a
    exact ⟨q.1.frz n fun a _ e => ne _ a (Nat.lt_succ_self _) e, ih (fun k a hk e => ne k a (Nat.lt_succ_of_lt hk) e) q.2⟩
/-- any holder's own object is frozen (no argument's) -/
theorem SttF.freezeAt {u : HO} (S : SttF K c F ow δ tmp σ H) (e : H p = some u) (n : F p = none) (w : c.H0 p = none) (ns : ∀ (k : Nat) x, δ[k]? = some (some x) → ow p ≠ some (.s k)) (nt : ∀ (k : Nat), k < tmp.length → ow p ≠ some (.t k)) : SttF K c (upd F p u) ow δ tmp σ H where
  fh := same_upd1 S.fh e
  f0 := S.f0.trans (same_upd (Same.refl F) n)
  fn := fun a q => by
    by_cases z : a = p
    · subst z; exact .inr w
    · rw [upd_ne z] at q; exact S.fn a q
  fr := S.fr
  up := S.up
  len := S.len
  sl := fun i x q => let ⟨v, e1, e2⟩ := S.sl i x q; ⟨v, e1, e2.frz n fun a _ z y => by subst y; exact ns i x q z⟩
  tm := RepTmp.frz n (fun k a hk z y => by subst y; exact nt k hk z) S.tm
  ps := S.ps
theorem NewAt.t {k : Nat} (w : NewAt c (.t k) p) : c.H0 p = none := by
  rcases w with w | ⟨_, i, e, _⟩
  · exact w
  · cases e
theorem SttF.top_frz (S : SttF K c F ow δ ((v, x) :: tmp) σ H) : ∃ F', SttF K c F' ow δ ((v, .d x.toD) :: tmp) σ H ∧ Same F F' := by
  cases x with
  | d y => exact ⟨F, S, Same.refl F⟩
  | own o =>
    obtain ⟨p, rfl, e, b, w, r⟩ := S.tm.1
    obtain ⟨u, eu, r'⟩ := r.freeze b S.fh
    have S1 := S.pop.freezeAt eu b w.t (fun k x _ z => by rw [e] at z; cases z) (fun k hk z => by rw [e] at z; cases z; exact absurd hk (Nat.lt_irrefl _))
    exact ⟨upd F p u, S1.push r', same_upd (Same.refl F) b⟩
/-- the two on top -/
theorem SttF.top_frz2 {w : V} {y : DV} (S : SttF K c F ow δ ((v, x) :: (w, y) :: tmp) σ H) : ∃ F', SttF K c F' ow δ ((v, .d x.toD) :: (w, .d y.toD) :: tmp) σ H ∧ Same F F' := by
  obtain ⟨F1, S1, s1⟩ := S.top_frz
  obtain ⟨F2, S2, s2⟩ := S1.pop.top_frz
  exact ⟨F2, S2.push (S1.top.mono s2), s1.trans s2⟩
/-- a name is bound to what is on top -/
theorem SttF.set (S : SttF K c F ow δ ((v, x) :: tmp) σ H) (hi : i < δ.length) (ni : i ∉ c.sl) : ∃ ow', SttF K c F ow' (δ.set i (some x)) tmp (σ.set i (some v)) H := by
  have hs : i < σ.length := by rw [S.len]; exact hi
  have ps' : ∀ (k j : Nat) (p : Addr), c.sl[k]? = some j → c.ad[k]? = some p → (σ.set i (some v))[j]? = some (some (.ref p)) := fun k j p q1 q2 => by
    rw [List.getElem?_set_ne (fun z => ni (by rw [z]; exact List.mem_of_getElem? q1))]
    exact S.ps k j p q1 q2
  cases x with
  | d y =>
    refine ⟨ow, { S.pop with len := by rw [List.length_set, List.length_set]; exact S.len, sl := fun j z q => ?_, ps := ps' }⟩
    by_cases e : i = j
    · subst e
      rw [List.getElem?_set_self hi] at q
      cases q
      exact ⟨v, List.getElem?_set_self hs, S.top⟩
    · rw [List.getElem?_set_ne e] at q ⊢
      exact S.sl j z q
  | own o =>
    obtain ⟨p, rfl, e, b, w, r⟩ := S.tm.1
    have S1 := S.pop.reown (ow' := owSet ow p (.s i)) (fun k a z _ => owSet_ne fun y => by subst y; rw [e] at z; cases z) (fun k a hk z _ => owSet_ne fun y => by subst y; rw [e] at z; cases z; exact absurd hk (Nat.lt_irrefl _))
    refine ⟨owSet ow p (.s i), { S1 with len := by rw [List.length_set, List.length_set]; exact S.len, sl := fun j z q => ?_, ps := ps' }⟩
    by_cases e' : i = j
    · subst e'
      rw [List.getElem?_set_self hi] at q
      cases q
      exact ⟨.ref p, List.getElem?_set_self hs, p, rfl, owSet_at, b, .inl w.t, r⟩
    · rw [List.getElem?_set_ne e'] at q ⊢
      exact S1.sl j z q
/-- a slot is forgotten -/
theorem SttF.unset (S : SttF K c F ow δ tmp σ H) : SttF K c F ow (δ.set i none) tmp σ H := by
  refine { S with len := by rw [List.length_set]; exact S.len, sl := fun j z q => ?_ }
  by_cases e : i = j
  · subst e
    rcases Nat.lt_or_ge i δ.length with h | h
    · rw [List.getElem?_set_self h] at q; cases q
    · rw [List.getElem?_eq_none (by rw [List.length_set]; exact h)] at q; cases q
  · rw [List.getElem?_set_ne e] at q
    exact S.sl j z q
theorem set_lt {α : Type} {l : List α} {i : Nat} {x : α} (h : l[i]? = some x) : i < l.length := (List.getElem?_eq_some_iff.mp h).1
/-- the value at a slot goes on top of the stack; the slot is forgotten -/
theorem SttF.move (S : SttF K c F ow δ tmp σ H) (q : δ[i]? = some (some x)) (ni : i ∉ c.sl) : ∃ v ow', σ[i]? = some (some v) ∧ SttF K c F ow' (δ.set i none) ((v, x) :: tmp) σ H := by
  obtain ⟨v, e1, r⟩ := S.sl i x q
  cases x with
  | d y => exact ⟨v, ow, e1, { S.unset with tm := ⟨r, S.tm⟩ }⟩
  | own o =>
    obtain ⟨p, rfl, e, b, w, r⟩ := r
    have w' : c.H0 p = none := by
      rcases w with w | ⟨_, j, e, hj⟩
      · exact w
      · cases e; exact absurd hj ni
    -- the slot is forgotten first: then nobody but the stack holds p
    have S0 := S.unset (i := i)
    refine ⟨.ref p, owSet ow p (.t tmp.length), e1, { S0 with sl := fun j z qz => ?_, tm := ⟨⟨p, rfl, owSet_at, b, .inl w', r⟩, RepTmp.reown (fun k a hk z _ => owSet_ne fun y => by subst y; rw [e] at z; cases z) S.tm⟩ }⟩
    obtain ⟨u, e2, r2⟩ := S0.sl j z qz
    refine ⟨u, e2, r2.reown fun a _ z' _ => owSet_ne fun y => ?_⟩
    subst y
    rw [e] at z'
    cases z'
    rw [List.getElem?_set_self (set_lt q)] at qz
    cases qz
/-- the value at a slot, frozen, is read -/
theorem SttF.slot_frz (S : SttF K c F ow δ tmp σ H) (q : δ[i]? = some (some x)) (ni : i ∉ c.sl) : ∃ v F', σ[i]? = some (some v) ∧ SttF K c F' ow (δ.set i (some (.d x.toD))) ((v, .d x.toD) :: tmp) σ H := by
  obtain ⟨v, e1, r⟩ := S.sl i x q
  have hi := set_lt q
  cases x with
  | d y =>
    refine ⟨v, F, e1, { S with len := by rw [List.length_set]; exact S.len, tm := ⟨r, S.tm⟩, sl := fun j z qz => ?_ }⟩
    by_cases e : i = j
    · subst e
      rw [List.getElem?_set_self hi] at qz
      cases qz
      exact ⟨v, e1, r⟩
    · rw [List.getElem?_set_ne e] at qz
      exact S.sl j z qz
  | own o =>
    obtain ⟨p, rfl, e, b, w, r⟩ := r
    have w' : c.H0 p = none := by
      rcases w with w | ⟨_, j, e, hj⟩
      · exact w
      · cases e; exact absurd hj ni
    obtain ⟨u, eu, r'⟩ := r.freeze b S.fh
    have S1 := (S.unset (i := i)).freezeAt eu b w' (fun k x qx z => by
      rw [e] at z; cases z
      rw [List.getElem?_set_self hi] at qx; cases qx) (fun k hk z => by rw [e] at z; cases z)
    refine ⟨.ref p, upd F p u, e1, { S1 with len := by rw [List.length_set]; exact S.len, tm := ⟨r', S1.tm⟩, sl := fun j z qz => ?_ }⟩
    by_cases e' : i = j
    · subst e'
      rw [List.getElem?_set_self hi] at qz
      cases qz
      exact ⟨.ref p, e1, r'⟩
    · rw [List.getElem?_set_ne e'] at qz
      exact S1.sl j z (by rw [List.getElem?_set_ne e']; exact qz)
/-- an own object is changed -/
theorem SttF.write {o o' : OC} {ob : HO} (S : SttF K c F ow δ tmp σ H) (q : δ[i]? = some (some (.own o))) (ep : σ[i]? = some (some (.ref p))) (r' : OwnRep K F (upd H p ob) p o') : SttF K c F ow (δ.set i (some (.own o'))) tmp σ (upd H p ob) := by
  obtain ⟨v, e1, p', rfl, e, b, w, r⟩ := S.sl i _ q
  rw [ep] at e1
  cases e1
  have hi := set_lt q
  have keep : ∀ {h : Hold} {v : V} {x : DV}, RepV K c F H ow h v x → h ≠ .s i → RepV K c F (upd H p ob) ow h v x := fun {h v x} y ne => by
    cases x with
    | d z => exact y
    | own z =>
      obtain ⟨a, rfl, ea, ba, wa, ra⟩ := y
      exact ⟨a, rfl, ea, ba, wa, ra.mono (Same.refl F) (upd_ne fun t => by subst t; rw [e] at ea; cases ea; exact ne rfl)⟩
  have keepT : ∀ {tmp : List (V × DV)}, RepTmp K c F H ow tmp → RepTmp K c F (upd H p ob) ow tmp := fun {tmp} => by
    induction tmp with
    | nil => exact fun _ => True.intro
    | cons a r ih =>
      obtain ⟨v, x⟩ := a
      exact fun y => ⟨keep y.1 (fun z => nomatch z), ih y.2⟩
  refine ⟨?_, S.f0, S.fn, fun a u z n => ?_, fun a z => ?_, by rw [List.length_set]; exact S.len, fun j z qz => ?_, keepT S.tm, S.ps⟩
  · exact fun a u z => by
      rw [upd_ne (ne_of_none z b)]
      exact S.fh _ _ z
  · rw [upd_ne (fun t => ?_)]
    · exact S.fr a u z n
    · subst t
      rcases w with w | ⟨w, _⟩
      · rw [w] at z; cases z
      · exact n w
  · by_cases t : a = p
    · subst t; rw [upd_same] at z; cases z
    · rw [upd_ne t] at z; exact S.up a z
  · by_cases e' : i = j
    · subst e'
      rw [List.getElem?_set_self hi] at qz
      cases qz
      exact ⟨.ref p, ep, p, rfl, e, b, w, r'⟩
    · rw [List.getElem?_set_ne e'] at qz
      obtain ⟨v, e2, r2⟩ := S.sl j z qz
      exact ⟨v, e2, keep r2 fun t => e' (by cases t; rfl)⟩
end
end DL

set_option Elab.async false
set_option linter.all false
set_option maxRecDepth 100000
namespace DL
open PySem PySem.Spec PyProof.Rows L2
/-- an exception: its class, its fields -/
structure Ex where
  C : Addr
  fs : Option (List (Str × D))
abbrev DK := DV → DSt → Prop
abbrev XD := Ex → DSt → Prop
abbrev TD := DSt → DK → XD → Prop
abbrev TDT := DSt → (Bool → DSt → Prop) → XD → Prop
/-- an argument: data, or the own object at a slot -/
inductive AV where
  | d (x : D) | o (i : Nat)
abbrev TDA := DSt → (List AV → DSt → Prop) → XD → Prop
structure EndsD where
  nx : DSt → Prop
  rt : DK
  ex : XD
  bk : DSt → Prop := fun _ => False
  ct : DSt → Prop := fun _ => False
abbrev TDS := EndsD → DSt → Prop
def ExRep (K : PySem.W.Frag) (F : Hp) (cls : Value) (d : Option Addr) (x : Ex) : Prop :=
  cls = .ref x.C ∧ match x.fs with
    | none => d = none
    | some fs => ∃ dd vs, d = some dd ∧ F dd = some (.xd vs) ∧ RepF K F vs fs
section
variable (K : PySem.W.Frag) (c : Fc) (W : WX)
/-- what is wished of an exception -/
def WD (tmp : List (V × DV)) (E : XD) : Prop := ∀ (x : Ex) (δ : DSt) (σ : L2.St) (H F : Hp) (ow : Addr → Option Hold) (cls : Value) (d : Option Addr), E x δ → SttF K c F ow δ tmp σ H → ExRep K F cls d x → W cls d σ H
def LE (t : TD) : TE := fun σ H Q => ∃ δ tmp Qd Ed, Stt K c δ tmp σ H ∧ t δ Qd Ed ∧ (∀ v x δ' H', Qd x δ' → Stt K c δ' ((v, x) :: tmp) σ H' → Q v H') ∧ WD K c W tmp Ed
def LT (t : TDT) : TT := fun σ H Q => ∃ δ tmp Qd Ed, Stt K c δ tmp σ H ∧ t δ Qd Ed ∧ (∀ b δ' H', Qd b δ' → Stt K c δ' tmp σ H' → Q b H') ∧ WD K c W tmp Ed
inductive RepArgs (F : Hp) (σ : L2.St) : List V → List AV → Prop
  | nil : RepArgs F σ [] []
  | d {v : V} {x : D} {vs : List V} {as : List AV} (h : Rep K F v x) (t : RepArgs F σ vs as) : RepArgs F σ (v :: vs) (.d x :: as)
  | o {v : V} {i : Nat} {vs : List V} {as : List AV} (h : σ[i]? = some (some v)) (t : RepArgs F σ vs as) : RepArgs F σ (v :: vs) (.o i :: as)
def LA (t : TDA) : TA := fun σ H Q => ∃ δ tmp Qd Ed, Stt K c δ tmp σ H ∧ t δ Qd Ed ∧ (∀ vs as δ' F ow H', Qd as δ' → SttF K c F ow δ' tmp σ H' → RepArgs K F σ vs as → Q vs H') ∧ WD K c W tmp Ed
def LS (t : TDS) : TS := fun D σ H => ∃ δ tmp Dd, Stt K c δ tmp σ H ∧ t Dd δ ∧ (∀ δ' σ' H', Dd.nx δ' → Stt K c δ' tmp σ' H' → D.nx σ' H') ∧ (∀ v x δ' σ' H', Dd.rt x δ' → Stt K c δ' ((v, x) :: tmp) σ' H' → D.rt v H') ∧
  (∀ δ' σ' H', Dd.bk δ' → Stt K c δ' tmp σ' H' → D.bk σ' H') ∧ (∀ δ' σ' H', Dd.ct δ' → Stt K c δ' tmp σ' H' → D.ct σ' H') ∧ WD K c W tmp Dd.ex
end
section
variable {K : PySem.W.Frag} {c : Fc} {W : WX} {tmp : List (V × DV)} {Ed : XD} {v : V} {x : DV}
theorem WD.push (w : WD K c W tmp Ed) : WD K c W ((v, x) :: tmp) Ed := fun y δ σ H F ow cls d e S r => w y δ σ H F ow cls d e S.pop r
end
theorem PE_imp {X : Cx} {e : Expr} {t t' : TE} (h : PE X e t) (f : ∀ σ H Q, t' σ H Q → t σ H Q) : PE X e t' := ⟨fun pins s σ H Q I q => h.run pins s σ H Q I (f _ _ _ q)⟩
theorem PT_imp {X : Cx} {e : Expr} {t t' : TT} (h : PT X e t) (f : ∀ σ H Q, t' σ H Q → t σ H Q) : PT X e t' := ⟨fun pins s σ H Q I q => h.run pins s σ H Q I (f _ _ _ q)⟩
theorem PW_imp {X : Cx} {e : Expr} {t t' : TT} (h : PW X e t) (f : ∀ σ H Q, t' σ H Q → t σ H Q) : PW X e t' := ⟨fun wh pins s σ H Q I q => h.run wh pins s σ H Q I (f _ _ _ q)⟩
theorem PA_imp {X : Cx} {e : List Expr} {t t' : TA} (h : PA X e t) (f : ∀ σ H Q, t' σ H Q → t σ H Q) : PA X e t' := ⟨fun pos pins s σ H Q I q => h.run pos pins s σ H Q I (f _ _ _ q)⟩
theorem PS_imp {X : Cx} {e : Stmt} {t t' : TS} (h : PS X e t) (f : ∀ D σ H, t' D σ H → t D σ H) : PS X e t' := ⟨fun pins s σ H D I q => h.run pins s σ H D I (f _ _ _ q)⟩
theorem PSs_imp {X : Cx} {e : List Stmt} {t t' : TS} (h : PSs X e t) (f : ∀ D σ H, t' D σ H → t D σ H) : PSs X e t' := ⟨fun pins s σ H D I q => h.run pins s σ H D I (f _ _ _ q)⟩
section
variable {X : Cx} {c : Fc} {W : WX}
/-! ### names and constants -/
def varD (i : Nat) : TD := fun δ Q _ => ∃ x, δ[i]? = some (some (.d x)) ∧ Q (.d x) δ
def fvarD (i : Nat) : TD := fun δ Q _ => ∃ x, δ[i]? = some (some x) ∧ Q (.d x.toD) (δ.set i (some (.d x.toD)))
def constD (d : D) : TD := fun δ Q _ => Q (.d d) δ
theorem pd_var {i : Nat} {x : Str} {pos : Pos} (h : PE X (.Name x pos) (tVar i)) : PE X (.Name x pos) (LE X.K c W (varD i)) := PE_imp h fun σ H Q ⟨δ, tmp, Qd, Ed, ⟨F, ow, S⟩, ⟨x, e, q⟩, k, w⟩ => by
  obtain ⟨v, e1, r⟩ := S.sl i _ e
  exact ⟨v, e1, k v _ _ _ q ⟨F, ow, S.push r⟩⟩
theorem pd_fvar {i : Nat} {x : Str} {pos : Pos} (h : PE X (.Name x pos) (tVar i)) (ni : i ∉ c.sl) : PE X (.Name x pos) (LE X.K c W (fvarD i)) := PE_imp h fun σ H Q ⟨δ, tmp, Qd, Ed, ⟨F, ow, S⟩, ⟨x, e, q⟩, k, w⟩ => by
  obtain ⟨v, F', e1, S'⟩ := S.slot_frz e ni
  exact ⟨v, e1, k v _ _ _ q ⟨F', ow, S'⟩⟩
theorem pd_const {e : Expr} {v : V} {d : D} (h : PE X e (tC v)) (r : ∀ F, Rep X.K F v d) : PE X e (LE X.K c W (constD d)) := PE_imp h fun σ H Q ⟨δ, tmp, Qd, Ed, ⟨F, ow, S⟩, q, k, w⟩ =>
  k v _ _ _ q ⟨F, ow, S.push (r F)⟩
/-! ### operators on two values -/
/-- an operation on two values that makes new objects alone; it may hand back a new object of one's own -/
inductive Made (K : PySem.W.Frag) (F H F' H' : Hp) (v : V) : DV → Prop where
  | d {x : D} (e : Ext F H F' H') (r : Rep K F' v x) : Made K F H F' H' v (.d x)
  | own {p : Addr} {ob : HO} {o : OC} (hv : v = .ref p) (n : H p = none) (hF : F' = F) (hH : H' = upd H p ob) (r : OwnRep K F (upd H p ob) p o) : Made K F H F' H' v (.own o)
theorem Made.stt {K : PySem.W.Frag} {F H F' H' : Hp} {v : V} {x : DV} {ow : Addr → Option Hold} {δ : DSt} {tmp : List (V × DV)} {σ : L2.St} (m : Made K F H F' H' v x) (S : SttF K c F ow δ tmp σ H) : Stt K c δ ((v, x) :: tmp) σ H' := by
  cases m with
  | d e r => exact ⟨_, _, (S.ext e).push r⟩
  | own hv n hF hH r => subst hv hF hH; exact ⟨_, _, S.pushNew n r⟩
abbrev RD2 := D → D → (DV → Prop) → Prop
def Op2 (K : PySem.W.Frag) (r : R2) (rd : RD2) : Prop := ∀ x y a b F H Q Qd, Same F H → Rep K F x a → Rep K F y b → rd a b Qd → (∀ v dv F' H', Qd dv → Made K F H F' H' v dv → Q v H') → r x y H Q
def opD (rd : RD2) (ta tb : TD) : TD := fun δ Q E => ta δ (fun x δ1 => tb δ1 (fun y δ2 => rd x.toD y.toD fun z => Q z δ2) E) E
theorem lift_op {K : PySem.W.Frag} {r : R2} {rd : RD2} {ta tb : TD} (ho : Op2 K r rd) : ∀ σ H Q, LE K c W (opD rd ta tb) σ H Q → tOp r (LE K c W ta) (LE K c W tb) σ H Q := fun σ H Q ⟨δ, tmp, Qd, Ed, S, t, k, w⟩ => by
  refine ⟨δ, tmp, _, Ed, S, t, fun x a δ1 H1 t1 S1 => ?_, w⟩
  refine ⟨δ1, _, _, Ed, S1, t1, fun y b δ2 H2 t2 S2 => ?_, w.push⟩
  obtain ⟨F, ow, S2⟩ := S2
  obtain ⟨F', S3, _⟩ := S2.top_frz2
  refine ho x y _ _ F' H2 Q _ S3.fh S3.pop.top S3.top t2 fun v dv F2 H3 q m => ?_
  exact k v dv δ2 H3 q (m.stt S3.pop.pop)
theorem pd_op {a b : Expr} {op : Operator} {r : R2} {rd : RD2} {ta tb : TD} {pos : Pos} (ho : OpR X (binaryOp op) r) (hd : Op2 X.K r rd) (ha : PE X a (LE X.K c W ta)) (hb : PE X b (LE X.K c W tb)) : PE X (.BinOp a op b pos) (LE X.K c W (opD rd ta tb)) :=
  PE_imp (pe_op ho ha hb) (lift_op hd)
theorem pd_cmp {a b : Expr} {op : CmpOp} {r : R2} {rd : RD2} {ta tb : TD} {pos : Pos} (ho : OpR X (compareOp op) r) (hd : Op2 X.K r rd) (ha : PE X a (LE X.K c W ta)) (hb : PE X b (LE X.K c W tb)) (hm : behindInMarks op b = false) : PE X (.Compare a [op] [b] pos) (LE X.K c W (opD rd ta tb)) :=
  PE_imp (pe_cmpR ho ha hb hm) (lift_op hd)
/-! ### the call of a def -/
/-- the addresses of the own objects among the arguments -/
inductive ArgsRep (K : PySem.W.Frag) (F H : Hp) : List V → List DV → List Addr → Prop
  | nil : ArgsRep K F H [] [] []
  | d {v : V} {x : D} {vs : List V} {as : List DV} {ps : List Addr} (h : Rep K F v x) (t : ArgsRep K F H vs as ps) : ArgsRep K F H (v :: vs) (.d x :: as) ps
  | own {p : Addr} {o : OC} {vs : List V} {as : List DV} {ps : List Addr} (n : F p = none) (h : OwnRep K F H p o) (np : p ∉ ps) (t : ArgsRep K F H vs as ps) : ArgsRep K F H (.ref p :: vs) (.own o :: as) (p :: ps)
inductive OwnsRep (K : PySem.W.Frag) (F H : Hp) : List Addr → List OC → Prop
  | nil : OwnsRep K F H [] []
  | cons {p : Addr} {o : OC} {ps : List Addr} {os : List OC} (n : F p = none) (h : OwnRep K F H p o) (t : OwnsRep K F H ps os) : OwnsRep K F H (p :: ps) (o :: os)
structure Post (K : PySem.W.Frag) (F H : Hp) (ps : List Addr) (os : List OC) (F' H' : Hp) : Prop where
  f : Same F F'
  fh : Same F' H'
  fr : ∀ a o, H a = some o → a ∉ ps → H' a = some o
  up : ∀ a, H' a = none → H a = none
  nw : ∀ a, F' a ≠ none → F a ≠ none ∨ H a = none
  os : OwnsRep K F' H' ps os
def RetRep (K : PySem.W.Frag) (F' H H' : Hp) (v : V) : DV → Prop
  | .d x => Rep K F' v x
  | .own o => ∃ p, v = .ref p ∧ H p = none ∧ F' p = none ∧ OwnRep K F' H' p o
abbrev SpD := List DV → (DV → List OC → Prop) → (Ex → List OC → Prop) → Prop
def spOf (K : PySem.W.Frag) (sd : SpD) : Sp := fun vs H Q E => ∃ F as ps Qd Ed, Same F H ∧ ArgsRep K F H vs as ps ∧ sd as Qd Ed ∧
  (∀ v x os F' H', Qd x os → Post K F H ps os F' H' → RetRep K F' H H' v x → Q v H') ∧ (∀ cls d x os F' H', Ed x os → Post K F H ps os F' H' → ExRep K F' cls d x → E cls d H')
/-- the arguments as they stand -/
def argsOf (δ : DSt) : List AV → List DV → Prop
  | [], as => as = []
  | .d x :: r, as => ∃ t, as = .d x :: t ∧ argsOf δ r t
  | .o i :: r, as => ∃ o t, δ[i]? = some (some (.own o)) ∧ as = .own o :: t ∧ argsOf δ r t
def slotsOf : List AV → List Nat
  | [] => []
  | .d _ :: r => slotsOf r
  | .o i :: r => i :: slotsOf r
def putBack (δ : DSt) : List Nat → List OC → DSt
  | i :: is, o :: os => putBack (δ.set i (some (.own o))) is os
  | _, _ => δ
def callD (sd : SpD) (ta : TDA) : TD := fun δ Q E => ta δ (fun as δ1 => ∃ xs, argsOf δ1 as xs ∧ (slotsOf as).Nodup ∧ sd xs (fun r os => Q r (putBack δ1 (slotsOf as) os)) (fun x os => E x (putBack δ1 (slotsOf as) os))) E
end
section
variable {K : PySem.W.Frag} {c : Fc} {W : WX} {F F' H H' : Hp} {ow : Addr → Option Hold} {δ : DSt} {tmp : List (V × DV)} {σ : L2.St}
theorem putBack_at : ∀ {is : List Nat} {os : List OC} {δ : DSt} {j : Nat} {x : DV}, is.Nodup → is.length = os.length → (putBack δ is os)[j]? = some (some x) → (∃ (k : Nat) (o : OC), is[k]? = some j ∧ os[k]? = some o ∧ x = .own o) ∨ (j ∉ is ∧ δ[j]? = some (some x))
  | [], [], δ, j, x, _, _, e => .inr ⟨(fun z => nomatch z), e⟩
  | i :: is, o :: os, δ, j, x, nd, hl, e => by
    rcases putBack_at (is := is) (os := os) (List.nodup_cons.mp nd).2 (Nat.succ.inj hl) e with ⟨k, o', a, b, r⟩ | ⟨n, q⟩
    · exact .inl ⟨k + 1, o', a, b, r⟩
    · by_cases z : i = j
      · subst z
        rcases Nat.lt_or_ge i δ.length with h | h
        · rw [List.getElem?_set_self h] at q
          cases q
          exact .inl ⟨0, o, rfl, rfl, rfl⟩
        · rw [List.getElem?_eq_none (by rw [List.length_set]; exact h)] at q
          cases q
      · rw [List.getElem?_set_ne z] at q
        exact .inr ⟨fun y => (List.mem_cons.mp y).elim (fun t => z t.symm) n, q⟩
  | [], _ :: _, _, _, _, _, h, _ => nomatch h
  | _ :: _, [], _, _, _, _, h, _ => nomatch h
theorem putBack_len : ∀ {is : List Nat} {os : List OC} {δ : DSt}, (putBack δ is os).length = δ.length
  | [], [], _ => rfl
  | [], _ :: _, _ => rfl
  | _ :: _, [], _ => rfl
  | i :: is, o :: os, δ => by
    show (putBack (δ.set i _) is os).length = _
    rw [putBack_len, List.length_set]
theorem OwnsRep.len : ∀ {ps : List Addr} {os : List OC}, OwnsRep K F H ps os → ps.length = os.length
  | _, _, .nil => rfl
  | _, _, .cons _ _ t => congrArg (· + 1) t.len
theorem OwnsRep.get : ∀ {ps : List Addr} {os : List OC} {k : Nat} {p : Addr} {o : OC}, OwnsRep K F H ps os → ps[k]? = some p → os[k]? = some o → F p = none ∧ OwnRep K F H p o
  | _, _, 0, _, _, .cons n h _, a, b => by cases a; cases b; exact ⟨n, h⟩
  | _, _, k + 1, _, _, .cons _ _ t, a, b => t.get (k := k) a b
/-- behind a call -/
theorem SttF.called {is : List Nat} {ps : List Addr} {os : List OC} (S : SttF K c F ow δ tmp σ H) (hp : ps.length = is.length) (hs : ∀ (k i : Nat) (p : Addr), is[k]? = some i → ps[k]? = some p → σ[i]? = some (some (.ref p)) ∧ ∃ o, δ[i]? = some (some (.own o))) (nd : is.Nodup) (P : Post K F H ps os F' H') :
    SttF K c F' ow (putBack δ is os) tmp σ H' := by
  have hl : is.length = os.length := by rw [← hp]; exact P.os.len
  have held : ∀ (k : Nat) (p : Addr), ps[k]? = some p → ∃ i, is[k]? = some i ∧ ow p = some (.s i) ∧ NewAt c (.s i) p := fun k p e => by
    have hk : k < is.length := by rw [← hp]; exact set_lt e
    obtain ⟨e1, o, e2⟩ := hs k is[k] p (List.getElem?_eq_getElem hk) e
    obtain ⟨v, e3, p', rfl, a, _, w, _⟩ := S.sl _ _ e2
    rw [e1] at e3
    cases e3
    exact ⟨_, List.getElem?_eq_getElem hk, a, w⟩
  have keep : ∀ {h : Hold} {v : V} {x : DV}, RepV K c F H ow h v x → (∀ (k i : Nat), is[k]? = some i → h ≠ .s i) → RepV K c F' H' ow h v x := fun {h v x} q ne => by
    cases x with
    | d y => exact Rep.mono P.f q
    | own o =>
      obtain ⟨p, rfl, a, b, w, r⟩ := q
      have np : p ∉ ps := fun z => by
        obtain ⟨k, hk⟩ := List.mem_iff_getElem?.mp z
        obtain ⟨i, e1, e2, _⟩ := held k p hk
        rw [a] at e2
        cases e2
        exact ne k i e1 rfl
      refine ⟨p, rfl, a, ?_, w, r.mono P.f ?_⟩
      · cases z : F' p with
        | none => rfl
        | some u =>
          rcases P.nw p (by rw [z]; exact fun q => nomatch q) with y | y
          · exact absurd b y
          · exact absurd y r.has
      · cases z : H p with
        | none => exact absurd z r.has
        | some u => exact P.fr _ _ z np
  have keepT : ∀ {tmp : List (V × DV)}, RepTmp K c F H ow tmp → RepTmp K c F' H' ow tmp := fun {tmp} => by
    induction tmp with
    | nil => exact fun _ => True.intro
    | cons a r ih => obtain ⟨v, x⟩ := a; exact fun y => ⟨keep y.1 (fun _ _ _ z => nomatch z), ih y.2⟩
  refine ⟨P.fh, S.f0.trans P.f, fun a q => (P.nw a q).elim (S.fn a) fun z => .inr (S.up a z), fun a o q n => P.fr a o (S.fr a o q n) fun z => ?_, fun a q => S.up a (P.up a q), by rw [putBack_len]; exact S.len, fun j x q => ?_, keepT S.tm, S.ps⟩
  · obtain ⟨k, hk⟩ := List.mem_iff_getElem?.mp z
    obtain ⟨i, _, _, w⟩ := held k a hk
    rcases w with w | ⟨w, _⟩
    · rw [w] at q; cases q
    · exact n w
  · rcases putBack_at nd hl q with ⟨k, o, e1, e2, rfl⟩ | ⟨nj, e⟩
    · have hk : k < ps.length := by rw [hp]; exact set_lt e1
      have ek := List.getElem?_eq_getElem hk
      obtain ⟨e3, _⟩ := hs k j _ e1 ek
      obtain ⟨i, e4, e5, w⟩ := held k _ ek
      rw [e1] at e4
      cases e4
      obtain ⟨n, r⟩ := P.os.get ek e2
      exact ⟨_, e3, _, rfl, e5, n, w, r⟩
    · obtain ⟨v, e1, r⟩ := S.sl j x e
      exact ⟨v, e1, keep r fun k i e2 z => nj (by cases z; exact List.mem_of_getElem? e2)⟩
/-- the arguments of a call -/
theorem args_rep (S : SttF K c F ow δ tmp σ H) : ∀ {as : List AV} {vs : List V} {xs : List DV}, RepArgs K F σ vs as → argsOf δ as xs → (slotsOf as).Nodup →
    ∃ ps, ArgsRep K F H vs xs ps ∧ ps.length = (slotsOf as).length ∧ ∀ (k i : Nat) (p : Addr), (slotsOf as)[k]? = some i → ps[k]? = some p → σ[i]? = some (some (.ref p)) ∧ ∃ o, δ[i]? = some (some (.own o))
  | [], _, _, .nil, e, _ => by
    cases e
    exact ⟨[], .nil, rfl, fun k i p e => by simp [slotsOf] at e⟩
  | .d x :: r, _, _, .d h t, e, nd => by
    obtain ⟨t', rfl, e⟩ := e
    obtain ⟨ps, a, b, q⟩ := args_rep S t e nd
    exact ⟨ps, .d h a, b, q⟩
  | .o i :: r, _, _, .o h t, e, nd => by
    obtain ⟨o, t', ei, rfl, e⟩ := e
    obtain ⟨ps, a, b, q⟩ := args_rep S t e (List.nodup_cons.mp nd).2
    obtain ⟨v, e1, p, rfl, e2, n, w, r'⟩ := S.sl _ _ ei
    rw [h] at e1
    cases e1
    refine ⟨p :: ps, .own n r' (fun z => ?_) a, congrArg (· + 1) b, fun k j p' => ?_⟩
    · obtain ⟨k, hk⟩ := List.mem_iff_getElem?.mp z
      have hk2 : k < (slotsOf r).length := by rw [← b]; exact set_lt hk
      obtain ⟨e3, o', e4⟩ := q k _ p (List.getElem?_eq_getElem hk2) hk
      obtain ⟨v, e5, p2, rfl, e6, _⟩ := S.sl _ _ e4
      rw [e3] at e5
      cases e5
      rw [e2] at e6
      have e7 : i = (slotsOf r)[k] := by injection Option.some.inj e6
      exact (List.nodup_cons.mp nd).1 (by rw [e7]; exact List.getElem_mem hk2)
    · cases k with
      | zero => intro e e'; cases e; cases e'; exact ⟨h, o, ei⟩
      | succ k => exact q k j p'
end
end DL

set_option Elab.async false
set_option linter.all false
set_option maxRecDepth 100000
namespace DL
open PySem PySem.Spec PyProof.Rows L2
/-! ### C(e, ..) whose __init__ may raise: what is raised is wished for at the slots -/
def tMakeS (C : Addr) (sp : Sp) (E : L2.St → XK) (t : TA) : TE := fun σ H Q => t σ H fun vs H1 => ∀ x dx, H1 x = none → H1 dx = none → dx ≠ x →
  sp (.ref x :: vs) (upd (upd H1 dx (.own x)) x (.ins C dx [])) (fun v H2 => v = .non ∧ Q (.ref x) H2) (E σ)
section
variable {X : Cx} {CX : CXT} {k : Nat} {f C : Addr} {fd : FuncData} {ps : List Str} {sp : Sp} {E : L2.St → XK} {x m : Str} {p pos apos : Pos} {e o : Expr} {es : List Expr} {ta : TE} {t : TA}
theorem run_makeS {pins : List (Addr × Obj)} {σ : L2.St} {H : Hp} {s : Shared} {Q : VK} {us : List Value} {vs : List V} (M : Mk X.K C f) (G : FnOk X.prog X.w X.K X.mg X.base CX k f fd ps sp) (room : Room (k + 1) X.A) (bd : Binds X.K fd ps [])
    (hx : PassesAt CX X σ (E σ)) (I : Inv X pins σ H s) (r : Vals vs us)
    (h : ∀ x dx, H x = none → H dx = none → dx ≠ x → sp (.ref x :: vs) (upd (upd H dx (.own x)) x (.ins C dx [])) (fun v H2 => v = .non ∧ Q (.ref x) H2) (E σ)) :
    wpAny (model X.prog X.w) X.A (call (.ref C) us) (EP X pins σ Q) X.xe s := by
  let n := s.heap.objs.size
  have q0 := h (n + 1) n (I.hok.fresh (Nat.le_succ _)) (I.hok.fresh (Nat.le_refl _)) (Nat.ne_of_lt (Nat.lt_succ_self _))
  have J := Inv.made (C := C) I
  have rr : Vals (V.ref (n + 1) :: vs) (Value.ref (n + 1) :: us) := .cons rfl r
  have hl : (Value.ref (n + 1) :: us).length = ps.length := by
    rw [← rr.length]
    exact G.len _ _ _ _ q0
  have hb2 := bd _ (Value.ref (n + 1) :: us) J.kIn (by rw [List.append_nil]; exact hl)
  rw [List.append_nil] at hb2
  have run := G.run _ X.stack _ _ ⟨Value.ref (n + 1) :: us, []⟩ (Value.ref (n + 1) :: us) _ _ (E σ) (room.make C us []) (J.env0.make C us []) hb2 rr q0
  refine wpAny_call (make_map (f := f) I.kIn M.makes M.init (beq_iff_eq.mp M.fn) (codeAny_mono run fun r' s' z => ?_))
  cases r' with
  | error er => exact hx pins _ _ er s' J z
  | ok fl =>
    cases fl with
    | next => exact False.elim z
    | brk => exact False.elim z
    | cont => exact False.elim z
    | ret u =>
      obtain ⟨v, H', J', rv, ev, q3⟩ := J.after z
      subst ev
      exact ⟨rv, ⟨V.ref (n + 1), H', J', rfl, q3⟩⟩
theorem pe_makeS (M : Mk X.K C f) (G : FnOk X.prog X.w X.K X.mg X.base CX k f fd ps sp) (room : Room (k + 1) X.A) (hg : Gl X x) (hm : X.mg x = some (.ref C)) (bd : Binds X.K fd ps []) (hx : ∀ σ, PassesAt CX X σ (E σ)) (ha : PA X (e :: es) t)
    (hdb : (x == ("__debug__" : Str)) = false := by decide) (he : starEach (e :: es) X.env = (false, eval e X.env) :: starEach es X.env := by rfl) (hpl : (backTo pos (starEach es X.env)).any (·.1) = false := by rfl) :
    PE X (.Call (.Name x p) (e :: es) [] pos) (tMakeS C sp E t) :=
  ⟨fun pins s σ H Q I h => wpAny_Call_Name_kw (ld_glob I hg hm (PySem.W.callWith_K (h₀ := X.base) I.ok.mod.kin M.kp
    (thn (ha.run pos pins s σ H _ I h) fun us s1 ⟨vs, H1, I1, r, q⟩ => ⟨I1.kIn, run_makeS M G room bd (hx σ) I1 r q⟩) he hpl) hdb)⟩
/-! ### o.m(e, ..), a method that may raise -/
def tMethX (C : Addr) (m : Str) (sp : Sp) (E : L2.St → XK) (ta : TE) (t : TA) : TE := fun σ H Q => ta σ H fun x H1 => ∃ a dx fs, x = .ref a ∧ H1 a = some (.ins C dx fs) ∧ fs.lookup m = none ∧ t σ H1 fun vs H2 => sp (x :: vs) H2 Q (E σ)
theorem pe_methX {pl : Sem Bool} (he : PE X o ta) (c : Cls X.K C) (hm : Meth X.K C m f) (G : FnOk X.prog X.w X.K X.mg X.base CX k f fd ps sp) (room : Room k X.A) (bd : Binds X.K fd ps []) (hx : ∀ σ, PassesAt CX X σ (E σ)) (ha : PA X (e :: es) t)
    (hst : starEach (e :: es) X.env = (false, eval e X.env) :: starEach es X.env := by rfl) (hpl : (backTo pos (starEach es X.env)).any (·.1) = false := by rfl)
    (ht : eval (.Call (.Attribute o m apos) (e :: es) [] pos) X.env = (do
      let ov ← eval o X.env
      standAt apos.atName
      let (f, first) ← holding [ov] (getMethod ov m pl)
      callWith pos f first (backTo pos (starEach (e :: es) X.env)) (backToKw pos (keywordEach [] X.env))) := by rfl) :
    PE X (.Call (.Attribute o m apos) (e :: es) [] pos) (tMethX C m sp E ta t) := by
  refine ⟨fun pins s σ H Q I h => PySem.W.methodCall_KW (pl := pl) (thn (he.run pins s σ H _ I h) fun u s1 ⟨x, H1, I1, rx, a, dx, fs, ex, ea, l, q⟩ => ?_) ht⟩
  subst ex
  cases (show u = Value.ref a from rx)
  refine getmeth_ok I1 ea c hm l (PySem.W.callWith_K (first := [.ref a]) (h₀ := X.base) I.ok.mod.kin hm.kp (thn (ha.run pos pins s1 σ H1 _ I1 q) fun us s2 ⟨vs, H2, I2, r, q2⟩ => ⟨I2.kIn, ?_⟩) hst hpl)
  exact run_fnS G room bd (hx σ) I2 (.cons (show RelV (V.ref a) (Value.ref a) from rfl) r) q2
end
section
variable {X : Cx} {c : Fc} {W : WX}
/-! ### arguments -/
def nilD : TDA := fun δ Q _ => Q [] δ
def consD (t : TD) (r : TDA) : TDA := fun δ Q E => t δ (fun x δ1 => r δ1 (fun as δ2 => Q (.d x.toD :: as) δ2) E) E
def consO (i : Nat) (r : TDA) : TDA := fun δ Q E => r δ (fun as δ2 => Q (.o i :: as) δ2) E
theorem pda_nil : PA X [] (LA X.K c W nilD) := PA_imp pa_nil fun σ H Q ⟨δ, tmp, Qd, Ed, ⟨F, ow, S⟩, q, k, w⟩ => k [] [] δ F ow H q S .nil
theorem pda_cons {e : Expr} {es : List Expr} {t : TD} {r : TDA} (he : PE X e (LE X.K c W t)) (hr : PA X es (LA X.K c W r)) (hs : starEach (e :: es) X.env = (false, eval e X.env) :: starEach es X.env := by rfl) : PA X (e :: es) (LA X.K c W (consD t r)) :=
  PA_imp (pa_cons he hr hs) fun σ H Q ⟨δ, tmp, Qd, Ed, S, t, k, w⟩ => ⟨δ, tmp, _, Ed, S, t, fun v x δ1 H1 q1 ⟨F, ow, S1⟩ => by
    obtain ⟨F', S2, _⟩ := S1.top_frz
    exact ⟨δ1, _, _, Ed, ⟨F', ow, S2⟩, q1, fun vs as δ2 F2 ow2 H2 q2 S3 ra => k _ _ _ _ _ _ q2 S3.pop (.d S3.top ra), w.push⟩, w⟩
theorem pda_own {i : Nat} {x : Str} {pos : Pos} {es : List Expr} {r : TDA} (he : PE X (.Name x pos) (tVar i)) (hr : PA X es (LA X.K c W r)) (hs : starEach (.Name x pos :: es) X.env = (false, eval (.Name x pos) X.env) :: starEach es X.env := by rfl) :
    PA X (.Name x pos :: es) (LA X.K c W (fun δ Q E => ∃ o, δ[i]? = some (some (.own o)) ∧ consO i r δ Q E)) :=
  PA_imp (pa_cons he hr hs) fun σ H Q ⟨δ, tmp, Qd, Ed, ⟨F, ow, S⟩, ⟨o, eo, t⟩, k, w⟩ => by
    obtain ⟨v, e1, _⟩ := S.sl _ _ eo
    exact ⟨v, e1, δ, tmp, _, Ed, ⟨F, ow, S⟩, t, fun vs as δ2 F2 ow2 H2 q2 S3 ra => k _ _ _ _ _ _ q2 S3 (.o e1 ra), w⟩
/-! ### calls -/
theorem ret_push {K : PySem.W.Frag} {F F' H H' : Hp} {ow : Addr → Option Hold} {δ : DSt} {tmp : List (V × DV)} {σ : L2.St} {v : V} {x : DV} {is : List Nat} {ps : List Addr} {os : List OC} (S : SttF K c F ow δ tmp σ H) (hp : ps.length = is.length)
    (hs : ∀ (k i : Nat) (p : Addr), is[k]? = some i → ps[k]? = some p → σ[i]? = some (some (.ref p)) ∧ ∃ o, δ[i]? = some (some (.own o))) (nd : is.Nodup) (P : Post K F H ps os F' H') (r : RetRep K F' H H' v x) : Stt K c (putBack δ is os) ((v, x) :: tmp) σ H' := by
  cases x with
  | d y => exact ⟨F', ow, (S.called hp hs nd P).push r⟩
  | own o =>
    obtain ⟨p, rfl, n, nF, r⟩ := r
    have S1 := S.reown (ow' := owSet ow p (.t tmp.length)) (fun k a _ z => owSet_ne fun e => z (by rw [e]; exact n)) (fun k a _ _ z => owSet_ne fun e => z (by rw [e]; exact n))
    have S2 := S1.called hp hs nd P
    exact ⟨F', _, { S2 with tm := ⟨⟨p, rfl, owSet_at, nF, .inl (S.up _ n), r⟩, S2.tm⟩ }⟩
theorem lift_sp {K : PySem.W.Frag} {F H : Hp} {ow : Addr → Option Hold} {δ : DSt} {tmp : List (V × DV)} {σ : L2.St} {vs : List V} {as : List AV} {xs : List DV} {sd : SpD} {Q : VK} {Qd : DK} {Ed : XD} (S : SttF K c F ow δ tmp σ H) (ra : RepArgs K F σ vs as) (ea : argsOf δ as xs) (nd : (slotsOf as).Nodup)
    (sp : sd xs (fun r os => Qd r (putBack δ (slotsOf as) os)) (fun x os => Ed x (putBack δ (slotsOf as) os))) (k : ∀ v x δ' H', Qd x δ' → Stt K c δ' ((v, x) :: tmp) σ H' → Q v H') (w : WD K c W tmp Ed) : spOf K sd vs H Q (WE W σ) := by
  obtain ⟨ps, ar, hl, hs⟩ := args_rep S ra ea nd
  exact ⟨F, xs, ps, _, _, S.fh, ar, sp, fun v r os F' H' q P rr => k v r _ H' q (ret_push S hl hs nd P rr), fun cls d x os F' H' q P er => w x _ σ H' F' ow cls d q (S.called hl hs nd P) er⟩
variable {k : Nat} {f C : Addr} {fd : FuncData} {ps : List Str} {sd : SpD} {x m : Str} {p pos apos : Pos} {e o : Expr} {es : List Expr} {to : TD} {ta : TDA}
theorem pd_call (G : FnOk X.prog X.w X.K X.mg X.base (L2.CX X.prog X.w) k f fd ps (spOf X.K sd)) (hr : Room k X.A) (hg : Gl X x) (hm : X.mg x = some (.ref f)) (hk : PySem.W.keepIn X.K (.ref f) = true) (hb : Binds X.K fd ps []) (tk : Takes X W) (ha : PA X (e :: es) (LA X.K c W ta))
    (hdb : (x == ("__debug__" : Str)) = false := by decide) (he : starEach (e :: es) X.env = (false, eval e X.env) :: starEach es X.env := by rfl) (hpl : (backTo pos (starEach es X.env)).any (·.1) = false := by rfl) :
    PE X (.Call (.Name x p) (e :: es) [] pos) (LE X.K c W (callD sd ta)) :=
  PE_imp (pe_callSD (E := WE W) G hr hg hm hk hb .nil (fun σ => passAt tk σ) ha hdb he hpl) fun σ H Q ⟨δ, tmp, Qd, Ed, S, t, k, w⟩ =>
    ⟨δ, tmp, _, Ed, S, t, fun vs as δ1 F ow H1 ⟨xs, ea, nd, sp⟩ S1 ra => by
      show spOf X.K sd (vs ++ []) H1 Q (WE W σ)
      rw [List.append_nil]
      exact lift_sp S1 ra ea nd sp k w, w⟩
/-- o.m(..), o of the class at C, its fields fs -/
def methD (C : Addr) (m : Str) (sd : SpD) (to : TD) (ta : TDA) : TD := fun δ Q E => to δ (fun o δ1 => ∃ fs, o.toD = .obj C fs ∧ fs.lookup m = none ∧ ta δ1 (fun as δ2 => ∃ xs, argsOf δ2 as xs ∧ (slotsOf as).Nodup ∧
  sd (.d (.obj C fs) :: xs) (fun r os => Q r (putBack δ2 (slotsOf as) os)) (fun x os => E x (putBack δ2 (slotsOf as) os))) E) E
theorem RepF.lookup {K : PySem.W.Frag} {F : Hp} {n : Str} : ∀ {vs : List (Str × V)} {fs : List (Str × D)}, RepF K F vs fs → (fs.lookup n = none → vs.lookup n = none) ∧ ∀ d, fs.lookup n = some d → ∃ v, vs.lookup n = some v ∧ Rep K F v d
  | _, _, .nil => ⟨fun _ => rfl, fun d h => by cases h⟩
  | _, _, .cons (n := n') h t => by
    rw [List.lookup_cons, List.lookup_cons]
    cases n == n'
    · exact t.lookup
    · exact ⟨(fun z => nomatch z), fun d z => ⟨_, rfl, by cases z; exact h⟩⟩
theorem pd_meth {pl : Sem Bool} (he : PE X o (LE X.K c W to)) (cl : Cls X.K C) (hm : Meth X.K C m f) (G : FnOk X.prog X.w X.K X.mg X.base (L2.CX X.prog X.w) k f fd ps (spOf X.K sd)) (hr : Room k X.A) (hb : Binds X.K fd ps []) (tk : Takes X W) (ha : PA X (e :: es) (LA X.K c W ta))
    (hst : starEach (e :: es) X.env = (false, eval e X.env) :: starEach es X.env := by rfl) (hpl : (backTo pos (starEach es X.env)).any (·.1) = false := by rfl)
    (ht : eval (.Call (.Attribute o m apos) (e :: es) [] pos) X.env = (do
      let ov ← eval o X.env
      standAt apos.atName
      let (f, first) ← holding [ov] (getMethod ov m pl)
      callWith pos f first (backTo pos (starEach (e :: es) X.env)) (backToKw pos (keywordEach [] X.env))) := by rfl) :
    PE X (.Call (.Attribute o m apos) (e :: es) [] pos) (LE X.K c W (methD C m sd to ta)) :=
  PE_imp (pe_methX (E := WE W) he cl hm G hr hb (fun σ => passAt tk σ) ha hst hpl ht) fun σ H Q ⟨δ, tmp, Qd, Ed, S, t, k, w⟩ =>
    ⟨δ, tmp, _, Ed, S, t, fun v o δ1 H1 ⟨fs, eo, nl, t1⟩ ⟨F, ow, S1⟩ => by
      obtain ⟨F', S2, _⟩ := S1.top_frz
      rw [eo] at S2
      cases S2.top with
      | @obj a _ dx vs _ s h =>
        refine ⟨a, dx, vs, rfl, S2.fh _ _ s, (RepF.lookup h).1 nl, δ1, _, _, Ed, ⟨F', ow, S2⟩, t1, fun ws as δ2 F2 ow2 H2 ⟨xs, ea, nd, sp⟩ S3 ra => ?_, w.push⟩
        obtain ⟨qs, ar, hl, hs⟩ := args_rep S3.pop ra ea nd
        exact ⟨F2, _, qs, _, _, S3.fh, .d S3.top ar, sp, fun v r os F' H' q P rr => k v r _ H' q (ret_push S3.pop hl hs nd P rr), fun cls d x os F' H' q P er => w x _ σ H' F' ow2 cls d q (S3.pop.called hl hs nd P) er⟩, w⟩
/-- C(..): a new object, which does not change behind its __init__ -/
def makeD (C : Addr) (sd : SpD) (ta : TDA) : TD := fun δ Q E => ta δ (fun as δ1 => ∃ xs, argsOf δ1 as xs ∧ (slotsOf as).Nodup ∧ sd (.own (.ins C []) :: xs)
  (fun r os => r = .d .non ∧ ∃ fs os', os = .ins C fs :: os' ∧ Q (.d (.obj C fs)) (putBack δ1 (slotsOf as) os')) (fun x os => ∃ o os', os = o :: os' ∧ E x (putBack δ1 (slotsOf as) os'))) E
theorem ArgsRep.ext {K : PySem.W.Frag} {F H H' : Hp} (s : Same H H') : ∀ {vs : List V} {xs : List DV} {ps : List Addr}, ArgsRep K F H vs xs ps → ArgsRep K F H' vs xs ps
  | _, _, _, .nil => .nil
  | _, _, _, .d h t => .d h (t.ext s)
  | _, _, _, .own n h np t => .own n (h.mono (Same.refl F) (Same.at s h.has)) np (t.ext s)
theorem ArgsRep.at {K : PySem.W.Frag} {F H : Hp} {p : Addr} : ∀ {vs : List V} {xs : List DV} {ps : List Addr}, ArgsRep K F H vs xs ps → p ∈ ps → H p ≠ none
  | _, _, _, .nil, h => nomatch h
  | _, _, _, .d _ t, h => t.at h
  | _, _, _, .own _ r _ t, h => (List.mem_cons.mp h).elim (fun e => by subst e; exact r.has) fun h => t.at h
theorem OwnsRep.mono {K : PySem.W.Frag} {F F' H : Hp} (s : Same F F') : ∀ {ps : List Addr} {os : List OC}, (∀ p ∈ ps, F p = none → F' p = none) → OwnsRep K F H ps os → OwnsRep K F' H ps os
  | _, _, _, .nil => .nil
  | _, _, h, .cons n r t => .cons (h _ List.mem_cons_self n) (r.mono s rfl) (t.mono s fun p hp => h p (List.mem_cons_of_mem _ hp))
theorem lift_make {K : PySem.W.Frag} {F H : Hp} {ow : Addr → Option Hold} {δ : DSt} {tmp : List (V × DV)} {σ : L2.St} {vs : List V} {as : List AV} {xs : List DV} {Q : VK} {Qd : DK} {Ed : XD} (S : SttF K c F ow δ tmp σ H) (ra : RepArgs K F σ vs as) (ea : argsOf δ as xs) (nd : (slotsOf as).Nodup)
    (sp : sd (.own (.ins C []) :: xs) (fun r os => r = .d .non ∧ ∃ fs os', os = .ins C fs :: os' ∧ Qd (.d (.obj C fs)) (putBack δ (slotsOf as) os')) (fun x os => ∃ o os', os = o :: os' ∧ Ed x (putBack δ (slotsOf as) os')))
    (k : ∀ v x δ' H', Qd x δ' → Stt K c δ' ((v, x) :: tmp) σ H' → Q v H') (w : WD K c W tmp Ed) (x dx : Addr) (nx : H x = none) (ndx : H dx = none) (ne : dx ≠ x) :
    spOf K sd (.ref x :: vs) (upd (upd H dx (.own x)) x (.ins C dx [])) (fun v H2 => v = .non ∧ Q (.ref x) H2) (WE W σ) := by
  obtain ⟨ps, ar, hl, hs⟩ := args_rep S ra ea nd
  have s2 : Same H (upd (upd H dx (.own x)) x (.ins C dx [])) := same_upd (same_upd (Same.refl H) ndx) (by rw [upd_ne ne.symm]; exact nx)
  have Fx : F x = none := S.fh.free nx
  have xps : x ∉ ps := fun z => ar.at z nx
  have back : ∀ {os' : List OC} {F' H' : Hp}, Same F F' → Same F' H' → (∀ a o, (upd (upd H dx (.own x)) x (.ins C dx [])) a = some o → a ∉ x :: ps → H' a = some o) → (∀ a, H' a = none → (upd (upd H dx (.own x)) x (.ins C dx [])) a = none) →
      (∀ a, F' a ≠ none → a = x ∨ F a ≠ none ∨ (upd (upd H dx (.own x)) x (.ins C dx [])) a = none) → OwnsRep K F' H' ps os' → Post K F H ps os' F' H' := fun f fh fr up nw os =>
    ⟨f, fh, fun a o e n => fr a o (s2 _ _ e) fun z => (List.mem_cons.mp z).elim (fun z => by subst z; rw [nx] at e; cases e) n, fun a z => s2.free (up a z), fun a z => (nw a z).elim (fun z => by subst z; exact .inr nx) fun z => z.imp id fun z => s2.free z, os⟩
  refine ⟨F, _, x :: ps, _, _, S.fh.trans s2, .own Fx (show OwnRep K F _ x (.ins C []) from ⟨dx, [], upd_same, .nil⟩) xps (ar.ext s2), sp, fun v r os F' H' ⟨e1, fs, os', e2, q⟩ P rr => ?_, fun cls d y os F' H' ⟨o, os', e2, q⟩ P er => ?_⟩
  · subst e1 e2
    have rv : v = .non := by cases rr; rfl
    refine ⟨rv, k _ _ _ _ q ?_⟩
    cases P.os with
    | cons n r t =>
      obtain ⟨dx', vs', ex, rf⟩ := r
      have sf : Same F' (upd F' x (.ins C dx' vs')) := same_upd (Same.refl F') n
      have P' : Post K F H ps os' (upd F' x (.ins C dx' vs')) H' := back (P.f.trans sf) (same_upd1 P.fh ex) P.fr P.up (fun a z => by
        by_cases y : a = x
        · exact .inl y
        · rw [upd_ne y] at z; exact .inr (P.nw a z)) (t.mono sf fun p hp e => by rw [upd_ne (fun z => xps (by rw [← z]; exact hp))]; exact e)
      exact ⟨_, ow, (S.called hl hs nd P').push (.obj upd_same (rf.mono sf))⟩
  · subst e2
    cases P.os with
    | cons n r t => exact w y _ σ H' F' ow cls d q (S.called hl hs nd (back P.f P.fh P.fr P.up (fun a z => .inr (P.nw a z)) t)) er
theorem pd_make (M : Mk X.K C f) (G : FnOk X.prog X.w X.K X.mg X.base (L2.CX X.prog X.w) k f fd ps (spOf X.K sd)) (room : Room (k + 1) X.A) (hg : Gl X x) (hm : X.mg x = some (.ref C)) (bd : Binds X.K fd ps []) (tk : Takes X W) (ha : PA X (e :: es) (LA X.K c W ta))
    (hdb : (x == ("__debug__" : Str)) = false := by decide) (he : starEach (e :: es) X.env = (false, eval e X.env) :: starEach es X.env := by rfl) (hpl : (backTo pos (starEach es X.env)).any (·.1) = false := by rfl) :
    PE X (.Call (.Name x p) (e :: es) [] pos) (LE X.K c W (makeD C sd ta)) :=
  PE_imp (pe_makeS (E := WE W) M G room hg hm bd (fun σ => passAt tk σ) ha hdb he hpl) fun σ H Q ⟨δ, tmp, Qd, Ed, S, t, k, w⟩ =>
    ⟨δ, tmp, _, Ed, S, t, fun vs as δ1 F ow H1 ⟨xs, ea, nd, sp⟩ S1 ra => fun x dx nx ndx ne => lift_make S1 ra ea nd sp k w x dx nx ndx ne, w⟩
end
end DL

set_option Elab.async false
set_option linter.all false
set_option maxRecDepth 100000
namespace DL
open PySem PySem.Spec PyProof.Rows L2
section
variable {X : Cx} {c : Fc} {W : WX}
/-! ### blocks -/
def nextD : TDS := fun D δ => D.nx δ
def seqD (t u : TDS) : TDS := fun D δ => t { D with nx := u D } δ
theorem pds_nil : PSs X [] (LS X.K c W nextD) := PSs_imp pss_nil fun D σ H ⟨δ, tmp, Dd, S, t, k, _⟩ => k δ σ H t S
theorem pds_cons {st : Stmt} {rest : List Stmt} {t u : TDS} (h1 : PS X st (LS X.K c W t)) (h2 : PSs X rest (LS X.K c W u)) : PSs X (st :: rest) (LS X.K c W (seqD t u)) :=
  PSs_imp (pss_cons h1 h2) fun D σ H ⟨δ, tmp, Dd, S, q, k, kr, kb, kc, w⟩ => ⟨δ, tmp, _, S, q, fun δ' σ' H' q' S' => ⟨δ', tmp, Dd, S', q', k, kr, kb, kc, w⟩, kr, kb, kc, w⟩
theorem pds_one {st : Stmt} {t : TDS} (h1 : PS X st (LS X.K c W t)) : PSs X [st] (LS X.K c W t) := PSs_imp (pss_one h1) fun _ _ _ q => q
def neverD : TDS := fun _ _ => False
def breakD : TDS := fun D δ => D.bk δ
def contD : TDS := fun D δ => D.ct δ
theorem psd_break {pos : Pos} : PS X (.Break pos) (LS X.K c W breakD) := PS_imp ps_break fun D σ H ⟨δ, tmp, Dd, S, t, _, _, k, _⟩ => k δ σ H t S
theorem psd_cont {pos : Pos} : PS X (.Continue pos) (LS X.K c W contD) := PS_imp ps_continue fun D σ H ⟨δ, tmp, Dd, S, t, _, _, _, k, _⟩ => k δ σ H t S
theorem psd_never {st : Stmt} : PS X st (LS X.K c W neverD) := PS_imp ps_never fun D σ H ⟨δ, tmp, Dd, S, t, _⟩ => t
def dropD (t : TD) : TDS := fun D δ => t δ (fun _ δ1 => D.nx δ1) D.ex
theorem psd_expr {e : Expr} {t : TD} {pos : Pos} (he : PE X e (LE X.K c W t)) (hs : swapsWith e none pos.line X.env = pure false := by rfl) : PS X (.Expr e pos) (LS X.K c W (dropD t)) :=
  PS_imp (ps_expr he hs) fun D σ H ⟨δ, tmp, Dd, S, q, k, kr, kb, kc, w⟩ => ⟨δ, tmp, _, _, S, q, fun v x δ' H' q' ⟨F, ow, S'⟩ => k δ' σ H' q' ⟨F, ow, S'.pop⟩, w⟩
def retD (t : TD) : TDS := fun D δ => t δ D.rt D.ex
theorem psd_ret {e : Expr} {t : TD} {pos : Pos} (he : PE X e (LE X.K c W t)) : PS X (.Return (some e) pos) (LS X.K c W (retD t)) :=
  PS_imp (ps_ret he) fun D σ H ⟨δ, tmp, Dd, S, q, k, kr, kb, kc, w⟩ => ⟨δ, tmp, _, _, S, q, fun v x δ' H' q' S' => kr v x δ' σ H' q' S', w⟩
/-! ### names -/
/-- x = e, frozen; as it is (x's own) -/
def setD (i : Nat) (t : TD) : TDS := fun D δ => t δ (fun x δ1 => D.nx (δ1.set i (some (.d x.toD)))) D.ex
def setO (i : Nat) (t : TD) : TDS := fun D δ => t δ (fun x δ1 => D.nx (δ1.set i (some x))) D.ex
theorem SttF.set' {K : PySem.W.Frag} {F H : Hp} {ow : Addr → Option Hold} {δ : DSt} {tmp : List (V × DV)} {σ : L2.St} {v : V} {x : DV} {i : Nat} (S : SttF K c F ow δ ((v, x) :: tmp) σ H) (ni : i ∉ c.sl) : Stt K c (δ.set i (some x)) tmp (σ.set i (some v)) H := by
  rcases Nat.lt_or_ge i δ.length with hi | hi
  · obtain ⟨ow', S'⟩ := S.set hi ni
    exact ⟨F, ow', S'⟩
  · rw [List.set_eq_of_length_le hi, List.set_eq_of_length_le (by rw [S.len]; exact hi)]
    exact ⟨F, ow, S.pop⟩
theorem psd_set {i : Nat} {x : Str} {e : Expr} {t : TD} {pos pos' : Pos} (he : PE X e (LE X.K c W t)) (ni : i ∉ c.sl) (hN : X.N.Nodup) (hi : X.N[i]? = some x) (hx : Loc X.env.scope x) (hs : swapsWith e (some (.Name x pos')) pos.line X.env = pure false := by rfl)
    (hf : X.fn x = true ∨ X.env.scope.names.lookup x = some .local := by first | exact .inl rfl | exact .inr rfl | assumption) : PS X (.Assign [.Name x pos'] e pos) (LS X.K c W (setD i t)) :=
  PS_imp (ps_set (i := i) hN hi hx he hs hf) fun D σ H ⟨δ, tmp, Dd, S, q, k, kr, kb, kc, w⟩ => ⟨δ, tmp, _, _, S, q, fun v x δ' H' q' ⟨F, ow, S'⟩ => by
    obtain ⟨F', S2, _⟩ := S'.top_frz
    exact k _ _ _ q' (S2.set' ni), w⟩
theorem psd_setO {i : Nat} {x : Str} {e : Expr} {t : TD} {pos pos' : Pos} (he : PE X e (LE X.K c W t)) (ni : i ∉ c.sl) (hN : X.N.Nodup) (hi : X.N[i]? = some x) (hx : Loc X.env.scope x) (hs : swapsWith e (some (.Name x pos')) pos.line X.env = pure false := by rfl)
    (hf : X.fn x = true ∨ X.env.scope.names.lookup x = some .local := by first | exact .inl rfl | exact .inr rfl | assumption) : PS X (.Assign [.Name x pos'] e pos) (LS X.K c W (setO i t)) :=
  PS_imp (ps_set (i := i) hN hi hx he hs hf) fun D σ H ⟨δ, tmp, Dd, S, q, k, kr, kb, kc, w⟩ => ⟨δ, tmp, _, _, S, q, fun v x δ' H' q' ⟨F, ow, S'⟩ => k _ _ _ q' (S'.set' ni), w⟩
/-- a row of values kept as they are -/
def LK (K : PySem.W.Frag) (c : Fc) (W : WX) (t : DSt → (List DV → DSt → Prop) → XD → Prop) : TA := fun σ H Q => ∃ δ tmp Qd Ed, Stt K c δ tmp σ H ∧ t δ Qd Ed ∧ (∀ vs xs δ' H', Qd xs δ' → vs.length = xs.length → Stt K c δ' ((vs.zip xs).reverse ++ tmp) σ H' → Q vs H') ∧ WD K c W tmp Ed
abbrev TDK := DSt → (List DV → DSt → Prop) → XD → Prop
def nilK : TDK := fun δ Q _ => Q [] δ
def consK (t : TD) (r : TDK) : TDK := fun δ Q E => t δ (fun x δ1 => r δ1 (fun xs δ2 => Q (x :: xs) δ2) E) E
theorem pka_nil : PA X [] (LK X.K c W nilK) := PA_imp pa_nil fun σ H Q ⟨δ, tmp, Qd, Ed, S, q, k, w⟩ => k [] [] δ H q rfl S
theorem pka_cons {e : Expr} {es : List Expr} {t : TD} {r : TDK} (he : PE X e (LE X.K c W t)) (hr : PA X es (LK X.K c W r)) (hs : starEach (e :: es) X.env = (false, eval e X.env) :: starEach es X.env := by rfl) : PA X (e :: es) (LK X.K c W (consK t r)) :=
  PA_imp (pa_cons he hr hs) fun σ H Q ⟨δ, tmp, Qd, Ed, S, t, k, w⟩ => ⟨δ, tmp, _, Ed, S, t, fun v x δ1 H1 q1 S1 => ⟨δ1, _, _, Ed, S1, q1, fun vs xs δ2 H2 q2 hl S2 => k _ _ _ _ q2 (congrArg (· + 1) hl) (by
    show Stt X.K c δ2 (((v, x) :: vs.zip xs).reverse ++ tmp) σ H2
    rw [List.reverse_cons, List.append_assoc]
    exact S2), w.push⟩, w⟩
/-- which of a row of values is frozen -/
def asD (own : Bool) (x : DV) : DV := if own then x else .d x.toD
def parD (i j : Nat) (oi oj : Bool) (t : TDK) : TDS := fun D δ => t δ (fun xs δ1 => ∃ x y, xs = [x, y] ∧ D.nx ((δ1.set j (some (asD oj y))).set i (some (asD oi x)))) D.ex
theorem SttF.top_as {K : PySem.W.Frag} {F H : Hp} {ow : Addr → Option Hold} {δ : DSt} {tmp : List (V × DV)} {σ : L2.St} {v : V} {x : DV} (S : SttF K c F ow δ ((v, x) :: tmp) σ H) (b : Bool) : ∃ F', SttF K c F' ow δ ((v, asD b x) :: tmp) σ H := by
  cases b
  · obtain ⟨F', S', _⟩ := S.top_frz
    exact ⟨F', S'⟩
  · exact ⟨F, S⟩
theorem psd_par {i j : Nat} {oi oj : Bool} {x y : Str} {a b : Expr} {t : TDK} {px py pt pos : Pos} {kt k2 pt2} (ha : PA X [a, b] (LK X.K c W t)) (ni : i ∉ c.sl) (nj : j ∉ c.sl) (h : ∀ {ta : TA}, PA X [a, b] ta → PS X (.Assign [.Tuple [.Name x px, .Name y py] k2 pt2] (.Tuple [a, b] kt pt) pos) (tPar i j ta)) (hij : i ≠ j) :
    PS X (.Assign [.Tuple [.Name x px, .Name y py] k2 pt2] (.Tuple [a, b] kt pt) pos) (LS X.K c W (parD i j oi oj t)) :=
  PS_imp (h ha) fun D σ H ⟨δ, tmp, Dd, S, q, k, kr, kb, kc, w⟩ => ⟨δ, tmp, _, _, S, q, fun vs xs δ' H' ⟨x, y, e, q'⟩ hl S' => by
    subst e
    match vs, hl with
    | [v, u], _ =>
      obtain ⟨F, ow, S'⟩ := S'
      have S2 : SttF X.K c F ow δ' ((u, y) :: (v, x) :: tmp) σ H' := S'
      obtain ⟨F3, S3⟩ := S2.top_as oj
      obtain ⟨F4, ow4, S4⟩ := S3.set' nj
      obtain ⟨F5, S5⟩ := S4.top_as oi
      refine ⟨v, u, rfl, k _ _ _ q' ?_⟩
      rw [List.set_comm _ _ hij]
      exact S5.set' ni, w⟩
/-! ### if -/
def ifD (c : TDT) (t u : TDS) : TDS := fun D δ => c δ (fun b δ1 => if b = true then t D δ1 else u D δ1) D.ex
theorem psd_if {e : Expr} {a b : List Stmt} {tc : TDT} {t u : TDS} {pos : Pos} (hc : PT X e (LT X.K c W tc)) (ha : PSs X a (LS X.K c W t)) (hb : PSs X b (LS X.K c W u)) : PS X (.If e a b pos) (LS X.K c W (ifD tc t u)) :=
  PS_imp (ps_if hc ha hb) fun D σ H ⟨δ, tmp, Dd, S, q, k, kr, kb, kc, w⟩ => ⟨δ, tmp, _, _, S, q, fun b δ' H' q' S' => by
    cases b
    · exact ⟨δ', tmp, Dd, S', q', k, kr, kb, kc, w⟩
    · exact ⟨δ', tmp, Dd, S', q', k, kr, kb, kc, w⟩, w⟩
def ifExpD (c : TDT) (t u : TD) : TD := fun δ Q E => c δ (fun b δ1 => if b = true then t δ1 Q E else u δ1 Q E) E
theorem pd_ifExp {e a b : Expr} {tc : TDT} {t u : TD} {pos : Pos} (hc : PT X e (LT X.K c W tc)) (ha : PE X a (LE X.K c W t)) (hb : PE X b (LE X.K c W u)) : PE X (.IfExp e a b pos) (LE X.K c W (ifExpD tc t u)) :=
  PE_imp (pe_ifExp hc ha hb) fun σ H Q ⟨δ, tmp, Qd, Ed, S, q, k, w⟩ => ⟨δ, tmp, _, _, S, q, fun b δ' H' q' S' => by
    cases b
    · exact ⟨δ', tmp, Qd, Ed, S', q', k, w⟩
    · exact ⟨δ', tmp, Qd, Ed, S', q', k, w⟩, w⟩
/-! ### and, or, not: tests -/
def notD (t : TDT) : TDT := fun δ Q E => t δ (fun b δ1 => Q (!b) δ1) E
def andD (t u : TDT) : TDT := fun δ Q E => t δ (fun b δ1 => if b = true then u δ1 Q E else Q false δ1) E
def orD (t u : TDT) : TDT := fun δ Q E => t δ (fun b δ1 => if b = true then Q true δ1 else u δ1 Q E) E
theorem ptd_not {a : Expr} {t : TDT} {pos : Pos} (ha : PT X a (LT X.K c W t)) : PT X (.UnaryOp .Not a pos) (LT X.K c W (notD t)) :=
  PT_imp (pt_not ha) fun σ H Q ⟨δ, tmp, Qd, Ed, S, q, k, w⟩ => ⟨δ, tmp, _, _, S, q, fun b δ' H' q' S' => k _ _ _ q' S', w⟩
theorem pwd_and1 {a : Expr} {t : TDT} {pos : Pos} (ha : PT X a (LT X.K c W t)) : PW X (.BoolOp .And [a] pos) (LT X.K c W t) := pw_and1 ha
theorem pwd_or1 {a : Expr} {t : TDT} {pos : Pos} (ha : PT X a (LT X.K c W t)) : PW X (.BoolOp .Or [a] pos) (LT X.K c W t) := pw_or1 ha
theorem pwd_and {a b : Expr} {rest : List Expr} {t u : TDT} {pos : Pos} (ha : PT X a (LT X.K c W t)) (hb : PW X (.BoolOp .And (b :: rest) pos) (LT X.K c W u)) : PW X (.BoolOp .And (a :: b :: rest) pos) (LT X.K c W (andD t u)) :=
  PW_imp (pw_and ha hb) fun σ H Q ⟨δ, tmp, Qd, Ed, S, q, k, w⟩ => ⟨δ, tmp, _, _, S, q, fun b δ' H' q' S' => by
    cases b
    · exact k _ _ _ q' S'
    · exact ⟨δ', tmp, Qd, Ed, S', q', k, w⟩, w⟩
theorem pwd_or {a b : Expr} {rest : List Expr} {t u : TDT} {pos : Pos} (ha : PT X a (LT X.K c W t)) (hb : PW X (.BoolOp .Or (b :: rest) pos) (LT X.K c W u)) : PW X (.BoolOp .Or (a :: b :: rest) pos) (LT X.K c W (orD t u)) :=
  PW_imp (pw_or ha hb) fun σ H Q ⟨δ, tmp, Qd, Ed, S, q, k, w⟩ => ⟨δ, tmp, _, _, S, q, fun b δ' H' q' S' => by
    cases b
    · exact ⟨δ', tmp, Qd, Ed, S', q', k, w⟩
    · exact k _ _ _ q' S', w⟩
/-! values by truth: bools alone -/
def boolE (t : TD) (k : Bool → DSt → Prop) (E : XD) (δ : DSt) : Prop := t δ (fun x δ1 => ∃ b, x = .d (.bl b) ∧ k b δ1) E
def notV (t : TD) : TD := fun δ Q E => boolE t (fun b δ1 => Q (.d (.bl (!b))) δ1) E δ
def andV (t u : TD) : TD := fun δ Q E => boolE t (fun b δ1 => if b = true then u δ1 Q E else Q (.d (.bl false)) δ1) E δ
theorem pd_not {a : Expr} {t : TD} {pos : Pos} (ha : PE X a (LE X.K c W t)) : PE X (.UnaryOp .Not a pos) (LE X.K c W (notV t)) :=
  PE_imp (pe_not ha) fun σ H Q ⟨δ, tmp, Qd, Ed, S, q, k, w⟩ => ⟨δ, tmp, _, _, S, q, fun v x δ' H' ⟨b, e, q'⟩ ⟨F, ow, S'⟩ => by
    subst e
    cases S'.top
    exact ⟨b, rfl, k _ _ _ _ q' ⟨F, ow, S'.pop.push (.bl _)⟩⟩, w⟩
theorem pd_one {op} {a : Expr} {t : TD} {pos : Pos} (ha : PE X a (LE X.K c W t)) : PE X (.BoolOp op [a] pos) (LE X.K c W t) := pe_one ha
theorem pd_and {a b : Expr} {rest : List Expr} {t u : TD} {pos : Pos} (ha : PE X a (LE X.K c W t)) (hb : PE X (.BoolOp .And (b :: rest) pos) (LE X.K c W u)) : PE X (.BoolOp .And (a :: b :: rest) pos) (LE X.K c W (andV t u)) :=
  PE_imp (pe_and ha hb) fun σ H Q ⟨δ, tmp, Qd, Ed, S, q, k, w⟩ => ⟨δ, tmp, _, _, S, q, fun v x δ' H' ⟨b, e, q'⟩ ⟨F, ow, S'⟩ => by
    subst e
    cases S'.top
    refine ⟨b, rfl, ?_⟩
    cases b
    · exact k _ _ _ _ q' ⟨F, ow, S'.pop.push (.bl _)⟩
    · exact ⟨δ', tmp, Qd, Ed, ⟨F, ow, S'.pop⟩, q', k, w⟩, w⟩
/-! ### moving an own name's object out -/
def mvarD (i : Nat) : TD := fun δ Q _ => ∃ x, δ[i]? = some (some x) ∧ Q x (δ.set i none)
theorem pd_mvar {i : Nat} {x : Str} {pos : Pos} (h : PE X (.Name x pos) (tVar i)) (ni : i ∉ c.sl) : PE X (.Name x pos) (LE X.K c W (mvarD i)) := PE_imp h fun σ H Q ⟨δ, tmp, Qd, Ed, ⟨F, ow, S⟩, ⟨x, e, q⟩, k, w⟩ => by
  obtain ⟨v, ow', e1, S'⟩ := S.move e ni
  exact ⟨v, e1, k v _ _ _ q ⟨F, ow', S'⟩⟩
/-! ### attributes -/
def fldD (C : Addr) (f : Str) (t : TD) : TD := fun δ Q E => t δ (fun o δ1 => ∃ fs d, o.toD = .obj C fs ∧ fs.lookup f = some d ∧ Q (.d d) δ1) E
theorem pd_fld {e : Expr} {C : Addr} {f : Str} {t : TD} {pos : Pos} (he : PE X e (LE X.K c W t)) (cl : Cls X.K C) (na : NoAttr X.K C f) (hb : attributeBase e f X.env (eval e X.env) = eval e X.env) : PE X (.Attribute e f pos) (LE X.K c W (fldD C f t)) :=
  PE_imp (pe_fld he hb) fun σ H Q ⟨δ, tmp, Qd, Ed, S, q, k, w⟩ => ⟨δ, tmp, _, _, S, q, fun v o δ' H' ⟨fs, d, eo, el, q'⟩ ⟨F, ow, S'⟩ => by
    obtain ⟨F', S2, _⟩ := S'.top_frz
    rw [eo] at S2
    cases S2.top with
    | @obj a _ dx vs _ s h =>
      obtain ⟨u, e1, r⟩ := (RepF.lookup h).2 d el
      exact ⟨a, C, dx, vs, u, rfl, S2.fh _ _ s, cl, na, e1, k _ _ _ _ q' ⟨F', ow, S2.pop.push r⟩⟩, w⟩
/-- of an object of the body's own -/
def fldO (C : Addr) (i : Nat) (f : Str) : TD := fun δ Q _ => ∃ fs d, δ[i]? = some (some (.own (.ins C fs))) ∧ fs.lookup f = some d ∧ Q (.d d) δ
theorem pd_fldO {i : Nat} {x : Str} {C : Addr} {f : Str} {pos px : Pos} (he : PE X (.Name x px) (tVar i)) (cl : Cls X.K C) (na : NoAttr X.K C f) (hb : attributeBase (.Name x px) f X.env (eval (.Name x px) X.env) = eval (.Name x px) X.env) : PE X (.Attribute (.Name x px) f pos) (LE X.K c W (fldO C i f)) :=
  PE_imp (pe_fld he hb) fun σ H Q ⟨δ, tmp, Qd, Ed, ⟨F, ow, S⟩, ⟨fs, d, ei, el, q⟩, k, w⟩ => by
    obtain ⟨v, e1, p, rfl, _, _, _, dx, vs, ep, r⟩ := S.sl _ _ ei
    obtain ⟨u, e2, ru⟩ := (RepF.lookup r).2 d el
    exact ⟨_, e1, p, C, dx, vs, u, rfl, ep, cl, na, e2, k _ _ _ _ q ⟨F, ow, S.push ru⟩⟩
def putD (f : Str) (d : D) : List (Str × D) → List (Str × D)
  | [] => [(f, d)]
  | (g, x) :: r => if g = f then (g, d) :: r else (g, x) :: putD f d r
theorem RepF.put {K : PySem.W.Frag} {F : Hp} {f : Str} {v : V} {d : D} (h : Rep K F v d) : ∀ {vs : List (Str × V)} {fs : List (Str × D)}, RepF K F vs fs → RepF K F (putF f v vs) (putD f d fs)
  | _, _, .nil => .cons h .nil
  | _, _, .cons (n := n) a t => by
    unfold putF putD
    by_cases e : n = f
    · rw [if_pos e, if_pos e]; exact .cons h t
    · rw [if_neg e, if_neg e]; exact .cons a (t.put h)
theorem RepF.length {K : PySem.W.Frag} {F : Hp} : ∀ {vs : List (Str × V)} {fs : List (Str × D)}, RepF K F vs fs → vs.length = fs.length
  | _, _, .nil => rfl
  | _, _, .cons _ t => congrArg (· + 1) t.length
def fldSet (C : Addr) (i : Nat) (f : Str) (t : TD) : TDS := fun D δ => t δ (fun y δ1 => ∃ fs, δ1[i]? = some (some (.own (.ins C fs))) ∧ fs.length < 1000 ∧ D.nx (δ1.set i (some (.own (.ins C (putD f y.toD fs)))))) D.ex
theorem psd_fld {i : Nat} {x : Str} {C : Addr} {f : Str} {value : Expr} {t : TD} {pos px pos' : Pos} (he : PE X (.Name x px) (tVar i)) (hv : PE X value (LE X.K c W t)) (cl : Cls X.K C) (na : NoAttr X.K C f) (hs : swapsWith value (some (.Attribute (.Name x px) f pos')) pos.line X.env = pure false) :
    PS X (.Assign [.Attribute (.Name x px) f pos'] value pos) (LS X.K c W (fldSet C i f t)) :=
  PS_imp (ps_fld he hv hs) fun D σ H ⟨δ, tmp, Dd, S, q, k, kr, kb, kc, w⟩ => ⟨δ, tmp, _, _, S, q, fun v y δ1 H1 ⟨fs, ei, lf, q'⟩ ⟨F, ow, S1⟩ => by
    obtain ⟨F2, S2, _⟩ := S1.top_frz
    obtain ⟨u, e1, p, rfl, _, _, _, dx, vs, ep, r⟩ := S2.sl _ _ ei
    refine ⟨_, e1, p, C, dx, vs, rfl, ep, cl, na, by rw [r.length]; exact lf, k _ _ _ q' ⟨F2, ow, S2.pop.write ei e1 ⟨dx, _, upd_same, r.put S2.top⟩⟩⟩, w⟩
end
end DL

set_option Elab.async false
set_option linter.all false
set_option maxRecDepth 100000
namespace DL
open PySem PySem.Spec PyProof.Rows L2
/-! ### scalars -/
def D.sc : D → Option V
  | .non => some .non
  | .bl b => some (.bl b)
  | .int i => some (.int i)
  | .str x => some (.str x)
  | _ => none
section
variable {K : PySem.W.Frag} {F F' H H' : Hp} {v : V} {d : D}
theorem Rep.sc (r : Rep K F v d) {x : V} (e : d.sc = some x) : v = x := by
  cases r <;> (first | (cases e; rfl) | cases e)
theorem made_d (s : Same F H) (r : Rep K F v d) : Made K F H F H v (.d d) := .d (Ext.refl s) r
/-! ### two operands -/
theorem op2_I0 {g : Int → Int → V} {gd : Int → Int → D} (h : ∀ i j F, Rep K F (g i j) (gd i j)) : Op2 K (rI0 g) (fun a b Q => ∃ i j, a = .int i ∧ b = .int j ∧ Q (.d (gd i j))) := fun x y a b F H Q Qd s rx ry ⟨i, j, e1, e2, q⟩ k => by
  subst e1 e2
  cases rx; cases ry
  exact ⟨i, j, rfl, rfl, k _ _ F H q (made_d s (h i j F))⟩
theorem op2_I {C : Int → Int → Prop} {g : Int → Int → V} {gd : Int → Int → D} (h : ∀ i j F, Rep K F (g i j) (gd i j)) : Op2 K (rI C g) (fun a b Q => ∃ i j, a = .int i ∧ b = .int j ∧ C i j ∧ Q (.d (gd i j))) := fun x y a b F H Q Qd s rx ry ⟨i, j, e1, e2, c, q⟩ k => by
  subst e1 e2
  cases rx; cases ry
  exact ⟨i, j, rfl, rfl, c, k _ _ F H q (made_d s (h i j F))⟩
/-- operations whose answer is a bool or an int, that make nothing -/
abbrev RD2s := D → D → (D → Prop) → Prop
def Op2s (K : PySem.W.Frag) (r : R2) (rd : RD2s) : Prop := ∀ x y a b F H Q Qd, Same F H → Rep K F x a → Rep K F y b → rd a b Qd → (∀ v z, Qd z → z.sc = some v → Q v H) → r x y H Q
theorem sc_rep {K : PySem.W.Frag} {F : Hp} {v : V} {z : D} (hs : ∀ x, z = .str x → PyData.strOk x = true) (e : z.sc = some v) : Rep K F v z := by
  cases z <;> (first | (cases e; first | exact .non | exact .bl _ | exact .int _ | exact .str (hs _ rfl)) | cases e)
def NoStr (z : D) : Prop := ∀ x, z = .str x → PyData.strOk x = true
theorem Op2s.op {r : R2} {rd : RD2s} (h : Op2s K r rd) : Op2 K r (fun a b Q => rd a b fun z => NoStr z ∧ Q (.d z)) := fun x y a b F H Q Qd s rx ry q k =>
  h x y a b F H Q _ s rx ry q fun v z ⟨n, qz⟩ e => k v _ F H qz (made_d s (sc_rep n e))
abbrev eqS (neg : Bool) : RD2s := fun a b Q => ∃ x y, a.sc = some x ∧ b.sc = some y ∧ scal x y = true ∧ Q (.bl (if neg then !decide (x = y) else decide (x = y)))
theorem op2_eq : Op2s K rEq (eqS false) := fun x y a b F H Q Qd s rx ry ⟨u, w, e1, e2, c, q⟩ k => by
  cases rx.sc e1; cases ry.sc e2
  exact ⟨c, k _ _ q rfl⟩
theorem op2_ne : Op2s K rNe (eqS true) := fun x y a b F H Q Qd s rx ry ⟨u, w, e1, e2, c, q⟩ k => by
  cases rx.sc e1; cases ry.sc e2
  exact ⟨c, k _ _ q rfl⟩
/-! == of data -/
mutual
def D.isPy : D → Bool
  | .non => true | .bl _ => true | .int _ => true | .str _ => true
  | .lst xs => isPyL xs | .ro xs => isPyL xs | .tup xs => isPyL xs | .rot xs => isPyL xs
  | _ => false
def isPyL : List D → Bool
  | [] => true
  | d :: ds => d.isPy && isPyL ds
end
mutual
def D.py : D → PyData
  | .non => .none | .bl b => .bool b | .int i => .int i | .str x => .str x
  | .lst xs => .list (pyL xs) | .ro xs => .list (pyL xs) | .tup xs => .tuple (pyL xs) | .rot xs => .tuple (pyL xs)
  | _ => .none
def pyL : List D → List PyData
  | [] => []
  | d :: ds => d.py :: pyL ds
end
mutual
theorem Rep.dp : ∀ {v : V} {d : D}, Rep K F v d → d.isPy = true → Dp K F v d.py
  | _, _, .non, _ => .non
  | _, _, .bl b, _ => .bl b
  | _, _, .int i, _ => .int i
  | _, _, .str _, _ => .str _
  | _, _, .ty _, h => nomatch h
  | _, _, .adr _, h => nomatch h
  | _, _, .lst s r, h => .lst (SqL.of s) (r.dp h)
  | _, _, .ro s r, h => .lst s (r.dp h)
  | _, _, .tup s r, h => .tup (SqT.of s) (r.dp h)
  | _, _, .rot s _ _ r, h => .tup (.inl (.inr ⟨_, s⟩)) (r.dp h)
  | _, _, .obj _ _, h => nomatch h
  | _, _, .dT _ _, h => nomatch h
  | _, _, .dK _ _, h => nomatch h
  | _, _, .exc0, h => nomatch h
  | _, _, .exc _ _, h => nomatch h
theorem RepL.dp : ∀ {vs : List V} {ds : List D}, RepL K F vs ds → isPyL ds = true → DpAll K F vs (pyL ds)
  | _, _, .nil, _ => .nil
  | _, _, .cons r t, h => .cons (r.dp (Bool.and_eq_true _ _ ▸ h).1) (t.dp (Bool.and_eq_true _ _ ▸ h).2)
end
mutual
theorem Rep.lay : ∀ {v : V} {d : D}, Rep K F v d → d.isPy = true → d.py.canLay0 = true
  | _, _, .non, _ => by simp only [D.py, PyData.canLay0]
  | _, _, .bl b, _ => by simp only [D.py, PyData.canLay0]
  | _, _, .int i, _ => by simp only [D.py, PyData.canLay0]
  | _, _, .str k, _ => by simp only [D.py, PyData.canLay0]; exact k
  | _, _, .ty _, h => nomatch h
  | _, _, .adr _, h => nomatch h
  | _, _, .lst s r, h => by simp only [D.py, PyData.canLay0]; exact r.lay h
  | _, _, .ro s r, h => by simp only [D.py, PyData.canLay0]; exact r.lay h
  | _, _, .tup s r, h => by simp only [D.py, PyData.canLay0]; exact r.lay h
  | _, _, .rot s _ _ r, h => by simp only [D.py, PyData.canLay0]; exact r.lay h
  | _, _, .obj _ _, h => nomatch h
  | _, _, .dT _ _, h => nomatch h
  | _, _, .dK _ _, h => nomatch h
  | _, _, .exc0, h => nomatch h
  | _, _, .exc _ _, h => nomatch h
theorem RepL.lay : ∀ {vs : List V} {ds : List D}, RepL K F vs ds → isPyL ds = true → PyData.canLayAll0 (pyL ds) = true
  | _, _, .nil, _ => by simp only [pyL, PyData.canLayAll0]
  | _, _, .cons r t, h => by
    simp only [pyL, PyData.canLayAll0]
    rw [r.lay (Bool.and_eq_true _ _ ▸ h).1, t.lay (Bool.and_eq_true _ _ ▸ h).2]
    rfl
end
mutual
theorem dp_mono (e : Same F F') : ∀ {v : V} {d : PyData}, Dp K F v d → Dp K F' v d
  | _, _, .non => .non
  | _, _, .bl b => .bl b
  | _, _, .int i => .int i
  | _, _, .str x => .str x
  | _, _, .lst s h => .lst (e.seq s) (dpAll_mono e h)
  | _, _, .tup s h => .tup (sqt_mono e s) (dpAll_mono e h)
theorem dpAll_mono (e : Same F F') : ∀ {v : List V} {d : List PyData}, DpAll K F v d → DpAll K F' v d
  | _, _, .nil => .nil
  | _, _, .cons h t => .cons (dp_mono e h) (dpAll_mono e t)
end
/-- data that may be compared -/
def Cmp (d : D) : Prop := d.isPy = true ∧ d.py.depth ≤ 64
theorem Rep.shp (r : Rep K F v d) (c : Cmp d) : SeqAt.shaped d.py = true := by
  unfold SeqAt.shaped
  rw [r.lay c.1, decide_eq_true c.2]
  rfl
abbrev eqP (neg : Bool) : RD2s := fun a b Q => Cmp a ∧ Cmp b ∧ Q (.bl (if neg then !PyData.eqv a.py b.py else PyData.eqv a.py b.py))
theorem op2_eqD : Op2s K (rEqD K) (eqP false) := fun x y a b F H Q Qd s rx ry ⟨c1, c2, q⟩ k =>
  ⟨a.py, b.py, dp_mono s (rx.dp c1.1), dp_mono s (ry.dp c2.1), rx.shp c1, ry.shp c2, k _ _ q rfl⟩
theorem op2_neD : Op2s K (rNeD K) (eqP true) := fun x y a b F H Q Qd s rx ry ⟨c1, c2, q⟩ k =>
  ⟨a.py, b.py, dp_mono s (rx.dp c1.1), dp_mono s (ry.dp c2.1), rx.shp c1, ry.shp c2, k _ _ q rfl⟩
/-! ### rows -/
/-- the items of a row -/
def D.its : D → Option (List D)
  | .lst xs => some xs
  | .ro xs => some xs
  | .tup xs => some xs
  | .rot xs => some xs
  | _ => none
theorem Rep.row {xs : List D} (r : Rep K F v d) (e : d.its = some xs) : ∃ p vs, v = .ref p ∧ (SqL K F p vs ∨ SqT K F p vs) ∧ RepL K F vs xs := by
  cases r <;> (first | (cases e; first | exact ⟨_, _, rfl, .inl (SqL.of ‹_›), ‹_›⟩ | exact ⟨_, _, rfl, .inl ‹_›, ‹_›⟩ | exact ⟨_, _, rfl, .inr (SqT.of ‹_›), ‹_›⟩ | exact ⟨_, _, rfl, .inr (.inl (.inr ⟨_, ‹_›⟩)), ‹_›⟩) | cases e)
theorem RepL.len : ∀ {vs : List V} {ds : List D}, RepL K F vs ds → vs.length = ds.length
  | _, _, .nil => rfl
  | _, _, .cons _ t => congrArg (· + 1) t.len
theorem RepL.get : ∀ {vs : List V} {ds : List D} {i : Nat} {d : D}, RepL K F vs ds → ds[i]? = some d → ∃ v, vs[i]? = some v ∧ Rep K F v d
  | _, _, 0, _, .cons h _, e => by cases e; exact ⟨_, rfl, h⟩
  | _, _, i + 1, _, .cons _ t, e => t.get (i := i) e
theorem RepL.app : ∀ {vs ws : List V} {ds es : List D}, RepL K F vs ds → RepL K F ws es → RepL K F (vs ++ ws) (ds ++ es)
  | _, _, _, _, .nil, h => h
  | _, _, _, _, .cons a t, h => .cons a (t.app h)
theorem RepL.set {v : V} {d : D} (r : Rep K F v d) : ∀ {vs : List V} {ds : List D} (i : Nat), RepL K F vs ds → RepL K F (vs.set i v) (ds.set i d)
  | _, _, _, .nil => .nil
  | _, _, 0, .cons _ t => .cons r t
  | _, _, i + 1, .cons a t => .cons a (t.set r i)
theorem RepL.erase : ∀ {vs : List V} {ds : List D} (i : Nat), RepL K F vs ds → RepL K F (vs.eraseIdx i) (ds.eraseIdx i)
  | _, _, _, .nil => .nil
  | _, _, 0, .cons _ t => t
  | _, _, i + 1, .cons a t => .cons a (t.erase i)
theorem RepL.take : ∀ {vs : List V} {ds : List D} (i : Nat), RepL K F vs ds → RepL K F (vs.take i) (ds.take i)
  | _, _, 0, _ => .nil
  | _, _, _ + 1, .nil => .nil
  | _, _, i + 1, .cons a t => .cons a (t.take i)
theorem RepL.drop : ∀ {vs : List V} {ds : List D} (i : Nat), RepL K F vs ds → RepL K F (vs.drop i) (ds.drop i)
  | _, _, 0, h => h
  | _, _, _ + 1, .nil => .nil
  | _, _, i + 1, .cons a t => t.drop i
theorem RepL.rep {vs : List V} {ds : List D} (h : RepL K F vs ds) : ∀ n : Nat, RepL K F (List.replicate n vs).flatten (List.replicate n ds).flatten
  | 0 => .nil
  | n + 1 => by
    rw [List.replicate_succ, List.replicate_succ, List.flatten_cons, List.flatten_cons]
    exact h.app (h.rep n)
theorem RepL.ats {vs : List V} {ds : List D} {i : Int} (h : RepL K F vs ds) (e : atI ds i = some d) : ∃ v, atI vs i = some v ∧ Rep K F v d := by
  unfold atI at e ⊢
  rw [h.len]
  cases q : ixN ds.length i with
  | none => rw [q] at e; cases e
  | some j => rw [q] at e; exact h.get e
def cutD (xs : List D) (lo hi : Option Int) : List D := (xs.drop (HT.sIx xs.length 0 lo)).take (HT.sIx xs.length xs.length hi - HT.sIx xs.length 0 lo)
theorem RepL.cut {vs : List V} {ds : List D} (lo hi : Option Int) (h : RepL K F vs ds) : RepL K F (cutV vs lo hi) (cutD ds lo hi) := by
  unfold cutV cutD
  rw [h.len]
  exact (h.drop _).take _
/-- rows of scalars -/
def scL : List D → Option (List V)
  | [] => some []
  | d :: ds => match d.sc, scL ds with
    | some v, some vs => some (v :: vs)
    | _, _ => none
theorem RepL.sc : ∀ {vs ws : List V} {ds : List D}, RepL K F vs ds → scL ds = some ws → vs = ws
  | _, _, _, .nil, e => by cases e; rfl
  | _, _, _, .cons (d := d) (ds := ds) r t, e => by
    unfold scL at e
    cases q : d.sc with
    | none => rw [q] at e; cases e
    | some v =>
      cases q2 : scL ds with
      | none => rw [q, q2] at e; cases e
      | some ws =>
        rw [q, q2] at e
        cases e
        rw [r.sc q, t.sc q2]
theorem sq_mono {F H : Hp} {p : Addr} {vs : List V} (s : Same F H) (h : SqL K F p vs ∨ SqT K F p vs) : SqL K H p vs ∨ SqT K H p vs := h.imp (fun h => s.seq h) fun h => sqt_mono s h
/-- x in row, of scalars -/
abbrev inS (neg : Bool) : RD2s := fun a b Q => ∃ x xs ys, a.sc = some x ∧ b.its = some xs ∧ scL xs = some ys ∧ Q (.bl (if neg then !inV x ys else inV x ys))
theorem sc_flat : ∀ {d : D} {x : V}, d.sc = some x → flatV x = true := fun {d x} e => by cases d <;> (first | (cases e; rfl) | cases e)
theorem scL_flat : ∀ {ds : List D} {ys : List V}, scL ds = some ys → ys.all flatV = true
  | [], _, e => by cases e; rfl
  | d :: ds, _, e => by
    unfold scL at e
    cases q : d.sc with
    | none => rw [q] at e; cases e
    | some v =>
      cases q2 : scL ds with
      | none => rw [q, q2] at e; cases e
      | some ws =>
        rw [q, q2] at e
        cases e
        rw [List.all_cons, sc_flat q, scL_flat q2]
        rfl
theorem op2_in (neg : Bool) : Op2s K (rIn K neg) (inS neg) := fun x y a b F H Q Qd s rx ry ⟨u, xs, ys, e1, e2, e3, q⟩ k => by
  cases rx.sc e1
  obtain ⟨p, vs, rfl, h, r⟩ := ry.row e2
  cases r.sc e3
  exact ⟨p, _, rfl, sq_mono s h, sc_flat e1, scL_flat e3, k _ _ q rfl⟩
/-- a sign in a text -/
abbrev inSign (neg : Bool) : RD2s := fun a b Q => ∃ (c : Nat) (z : Str), a = .str ⟨#[c]⟩ ∧ b = .str z ∧ Q (.bl (if neg then !decide (c ∈ z.cps.toList) else decide (c ∈ z.cps.toList)))
theorem op2_inSign : Op2s K (fun x y H Q => ∃ (c : Nat) (z : Str), x = .str ⟨#[c]⟩ ∧ y = .str z ∧ Q (.bl (decide (c ∈ z.cps.toList))) H) (inSign false) := fun x y a b F H Q Qd s rx ry ⟨c, z, e1, e2, q⟩ k => by
  subst e1 e2
  cases rx; cases ry
  exact ⟨c, z, rfl, rfl, k _ _ q rfl⟩
/-- is None -/
abbrev isNS (neg : Bool) : RD2s := fun a b Q => ∃ t, b = .non ∧ (t = true ↔ a = .non) ∧ Q (.bl (if neg then !t else t))
theorem op2_isN : Op2s K (fun x y H Q => y = .non ∧ Q (.bl (decide (x = .non))) H) (isNS false) := fun x y a b F H Q Qd s rx ry ⟨t, e, ht, q⟩ k => by
  subst e
  cases ry
  refine ⟨rfl, ?_⟩
  have : decide (x = V.non) = t := by
    rw [Bool.eq_iff_iff, decide_eq_true_eq, ht]
    constructor
    · intro e; subst e; cases rx; rfl
    · intro e; subst e; cases rx; rfl
  rw [this]
  exact k _ _ q rfl
/-! what makes something new -/
theorem strOk_app {x y : Str} (h1 : PyData.strOk x = true) (h2 : PyData.strOk y = true) : PyData.strOk (x ++ y) = true := by
  unfold PyData.strOk at *
  show ((x.cps ++ y.cps).all _) = true
  rw [Array.all_append, h1, h2]
  rfl
theorem op2_addS : Op2 K (fun x y H Q => ∃ i j, x = .str i ∧ y = .str j ∧ i.length + j.length ≤ sizeLine ∧ Q (.str (i ++ j)) H) (fun a b Q => ∃ i j, a = .str i ∧ b = .str j ∧ i.length + j.length ≤ sizeLine ∧ Q (.d (.str (i ++ j)))) := fun x y a b F H Q Qd s rx ry ⟨i, j, e1, e2, z, q⟩ k => by
  subst e1 e2
  cases rx with
  | str k1 =>
    cases ry with
    | str k2 => exact ⟨i, j, rfl, rfl, z, k _ _ F H q (made_d s (.str (strOk_app k1 k2)))⟩
theorem made_list {p : Addr} {vs : List V} {ds : List D} (n : H p = none) (s : Same F H) (r : RepL K F vs ds) : Made K F H F (upd H p (.lst vs)) (.ref p) (.own (.lst ds)) := .own (ob := .lst vs) rfl n rfl rfl ⟨vs, upd_same, r⟩
theorem made_tup {p : Addr} {vs : List V} {ds : List D} (n : H p = none) (s : Same F H) (r : RepL K F vs ds) : Made K F H (upd F p (.tup vs)) (upd H p (.tup vs)) (.ref p) (.d (.tup ds)) :=
  .d (Ext.new s n) (.tup upd_same (r.mono (same_upd (Same.refl F) (s.free n))))
theorem op2_cat : Op2 K rCat (fun a b Q => ∃ xs ys, a = .lst xs ∧ b = .lst ys ∧ xs.length + ys.length ≤ sizeLine ∧ Q (.own (.lst (xs ++ ys)))) := fun x y a b F H Q Qd s rx ry ⟨xs, ys, e1, e2, z, q⟩ k => by
  subst e1 e2
  cases rx with
  | lst s1 r1 =>
    cases ry with
    | lst s2 r2 => exact ⟨_, _, _, _, rfl, rfl, s _ _ s1, s _ _ s2, by rw [r1.len, r2.len]; exact z, fun p n => k _ _ _ _ q (made_list n s (r1.app r2))⟩
theorem op2_rep : Op2 K rRep (fun a b Q => ∃ xs n, a = .lst xs ∧ b = .int n ∧ -(2 ^ 63) ≤ n ∧ n < 2 ^ 63 ∧ xs.length * n.toNat ≤ sizeLine ∧ Q (.own (.lst (List.replicate n.toNat xs).flatten))) := fun x y a b F H Q Qd s rx ry ⟨xs, n, e1, e2, z1, z2, z, q⟩ k => by
  subst e1 e2
  cases ry
  cases rx with
  | lst s1 r1 => exact ⟨_, _, _, rfl, rfl, s _ _ s1, z1, z2, by rw [r1.len]; exact z, fun p np => k _ _ _ _ q (made_list np s (r1.rep _))⟩
theorem RepL.nil_iff {vs : List V} {ds : List D} (h : RepL K F vs ds) : vs = [] ↔ ds = [] := by cases h <;> simp
theorem op2_catT : Op2 K (rCatA K) (fun a b Q => ∃ xs ys, a = .tup xs ∧ b = .tup ys ∧ xs.length + ys.length ≤ sizeLine ∧ Q (.d (.tup (xs ++ ys)))) := fun x y a b F H Q Qd s rx ry ⟨xs, ys, e1, e2, z, q⟩ k => by
  subst e1 e2
  cases rx with
  | tup s1 r1 =>
    cases ry with
    | tup s2 r2 =>
      refine ⟨_, _, _, _, rfl, rfl, SqT.of (s _ _ s1), SqT.of (s _ _ s2), by rw [r1.len, r2.len]; exact z, fun e => ?_, fun _ e => ?_, fun _ _ p n => k _ _ _ _ q (made_tup n s (r1.app r2))⟩
      · have : xs = [] := r1.nil_iff.mp e
        subst this
        exact k _ _ _ _ q (made_d s (.tup s2 r2))
      · have : ys = [] := r2.nil_iff.mp e
        subst this
        rw [List.append_nil] at q
        exact k _ _ _ _ q (made_d s (.tup s1 r1))
/-! ### an item -/
abbrev ixD : RD2 := fun a b Q => ∃ i, b = .int i ∧ ((∃ xs d, (a = .lst xs ∨ a = .ro xs) ∧ atI xs i = some d ∧ Q (.d d)))
theorem op2_ixL : Op2 K (rIxL K) ixD := fun x y a b F H Q Qd s rx ry ⟨i, e, xs, d, ha, at', q⟩ k => by
  subst e
  cases ry
  rcases ha with rfl | rfl
  · cases rx with
    | lst s1 r1 => obtain ⟨v, e1, r⟩ := r1.ats at'; exact ⟨_, _, i, v, rfl, rfl, s.seq (SqL.of s1), e1, k _ _ _ _ q (made_d s r)⟩
  · cases rx with
    | ro s1 r1 => obtain ⟨v, e1, r⟩ := r1.ats at'; exact ⟨_, _, i, v, rfl, rfl, s.seq s1, e1, k _ _ _ _ q (made_d s r)⟩
theorem op2_ixT : Op2 K (rIxT K) (fun a b Q => ∃ xs i d, a = .tup xs ∧ b = .int i ∧ atI xs i = some d ∧ Q (.d d)) := fun x y a b F H Q Qd s rx ry ⟨xs, i, d, e1, e2, at', q⟩ k => by
  subst e1 e2
  cases ry
  cases rx with
  | tup s1 r1 => obtain ⟨v, e1, r⟩ := r1.ats at'; exact ⟨_, _, i, v, rfl, rfl, SqT.of (s _ _ s1), e1, k _ _ _ _ q (made_d s r)⟩
theorem strOk_one {z : Str} {c : Nat} (h : PyData.strOk z = true) (e : c ∈ z.cps.toList) : PyData.strOk ⟨#[c]⟩ = true := by
  unfold PyData.strOk at *
  rw [Array.all_eq_true] at h
  obtain ⟨i, hi, rfl⟩ := List.mem_iff_getElem.mp e
  have := h i (by simpa using hi)
  simpa using this
end
section
variable {X : Cx} {c : Fc} {W : WX}
theorem pd_ix {a b : Expr} {r : R2} {rd : RD2} {ta tb : TD} {pos : Pos} (ho : IxR X r) (hd : Op2 X.K r rd) (ha : PE X a (LE X.K c W ta)) (hb : PE X b (LE X.K c W tb)) (hs : PlainIx b) : PE X (.Subscript a b pos) (LE X.K c W (opD rd ta tb)) :=
  PE_imp (pe_ix ho ha hb hs) (lift_op hd)
/-- of an own list in slot i -/
def ixO (i : Nat) (t : TD) : TD := fun δ Q E => ∃ o, δ[i]? = some (some (.own o)) ∧ t δ (fun k δ1 => ∃ xs j d, δ1[i]? = some (some (.own (.lst xs))) ∧ k.toD = .int j ∧ atI xs j = some d ∧ Q (.d d) δ1) E
theorem pd_ixO {i : Nat} {x : Str} {b : Expr} {t : TD} {pos px : Pos} (ha : PE X (.Name x px) (tVar i)) (hb : PE X b (LE X.K c W t)) (hs : PlainIx b) : PE X (.Subscript (.Name x px) b pos) (LE X.K c W (ixO i t)) :=
  PE_imp (pe_ix ix_list ha hb hs) fun σ H Q ⟨δ, tmp, Qd, Ed, ⟨F, ow, S⟩, ⟨o, eo, q⟩, k, w⟩ => by
    obtain ⟨v, e1, p, rfl, _⟩ := S.sl _ _ eo
    refine ⟨_, e1, δ, tmp, _, Ed, ⟨F, ow, S⟩, q, fun u y δ1 H1 ⟨xs, j, d, ei, ej, ed, q1⟩ ⟨F1, ow1, S1⟩ => ?_, w⟩
    obtain ⟨F2, S2, _⟩ := S1.top_frz
    obtain ⟨v', e2, p', rfl, _, _, _, vs, ep, r⟩ := S2.sl _ _ ei
    rw [e1] at e2
    cases e2
    rw [ej] at S2
    obtain ⟨z, ez, rz⟩ := r.ats ed
    cases S2.top
    exact ⟨p, vs, j, z, rfl, rfl, SqL.of ep, ez, k _ _ _ _ q1 ⟨F2, ow1, S2.pop.push rz⟩⟩
/-! ### built-ins -/
abbrev RDN := List D → (DV → Prop) → Prop
abbrev RDNs := List D → (D → Prop) → Prop
def CallN (K : PySem.W.Frag) (r : List V → Hp → VK → Prop) (rd : RDN) : Prop := ∀ xs ds F H Q Qd, Same F H → RepL K F xs ds → rd ds Qd → (∀ v dv F' H', Qd dv → Made K F H F' H' v dv → Q v H') → r xs H Q
def CallNs (K : PySem.W.Frag) (r : List V → Hp → VK → Prop) (rd : RDNs) : Prop := ∀ xs ds F H Q Qd, Same F H → RepL K F xs ds → rd ds Qd → (∀ v z, Qd z → z.sc = some v → Q v H) → r xs H Q
theorem CallNs.op {K : PySem.W.Frag} {r : List V → Hp → VK → Prop} {rd : RDNs} (h : CallNs K r rd) : CallN K r (fun ds Q => rd ds fun z => NoStr z ∧ Q (.d z)) := fun xs ds F H Q Qd s rx q k =>
  h xs ds F H Q _ s rx q fun v z ⟨n, qz⟩ e => k v _ F H qz (made_d s (sc_rep n e))
def builtD (rd : RDN) (ta : TDA) : TD := fun δ Q E => ta δ (fun as δ1 => ∃ ds, as = ds.map .d ∧ rd ds fun z => Q z δ1) E
theorem args_d {K : PySem.W.Frag} {F : Hp} {σ : L2.St} : ∀ {ds : List D} {vs : List V}, RepArgs K F σ vs (ds.map .d) → RepL K F vs ds
  | [], _, .nil => .nil
  | _ :: _, _, .d h t => .cons h (args_d t)
theorem lift_built {r : List V → Hp → VK → Prop} {rd : RDN} {ta : TDA} {K : PySem.W.Frag} (hd : CallN K r rd) : ∀ σ H Q, LE K c W (builtD rd ta) σ H Q → tCB r (LA K c W ta) σ H Q := fun σ H Q ⟨δ, tmp, Qd, Ed, S, t, k, w⟩ =>
  ⟨δ, tmp, _, Ed, S, t, fun vs as δ1 F ow H1 ⟨ds, e, q⟩ S1 ra => by
    subst e
    exact hd _ _ F H1 Q _ S1.fh (args_d ra) q fun v dv F' H' q' m => k _ _ _ _ q' (m.stt S1), w⟩
theorem pd_builtB {x : Str} {e : Expr} {es : List Expr} {p pos : Pos} {r : List V → Hp → VK → Prop} {rd : RDN} {ta : TDA} (h : ∀ {t : TA}, PA X (e :: es) t → PE X (.Call (.Name x p) (e :: es) [] pos) (tCB r t)) (hd : CallN X.K r rd) (ha : PA X (e :: es) (LA X.K c W ta)) :
    PE X (.Call (.Name x p) (e :: es) [] pos) (LE X.K c W (builtD rd ta)) := PE_imp (h ha) (lift_built hd)
/-- of the own list in slot i alone -/
def builtO (i : Nat) (rd : RDNs) : TD := fun δ Q _ => ∃ xs, δ[i]? = some (some (.own (.lst xs))) ∧ rd [.lst xs] fun z => NoStr z ∧ Q (.d z) δ
theorem pd_builtO {i : Nat} {x y : Str} {p pos py : Pos} {r : List V → Hp → VK → Prop} {rd : RDNs} (h : ∀ {t : TA}, PA X [.Name y py] t → PE X (.Call (.Name x p) [.Name y py] [] pos) (tCB r t)) (hd : CallNs X.K r rd) (hv : PE X (.Name y py) (tVar i)) (hs : starEach [.Name y py] X.env = (false, eval (.Name y py) X.env) :: starEach [] X.env := by rfl) :
    PE X (.Call (.Name x p) [.Name y py] [] pos) (LE X.K c W (builtO i rd)) := PE_imp (h (pa_cons hv pa_nil hs)) fun σ H Q ⟨δ, tmp, Qd, Ed, ⟨F, ow, S⟩, ⟨xs, ei, q⟩, k, w⟩ => by
  obtain ⟨v, e1, p, rfl, _, n, _, r⟩ := S.sl _ _ ei
  obtain ⟨u, eu, r'⟩ := OwnRep.freeze (o := .lst xs) r n S.fh
  exact ⟨_, e1, hd _ _ (upd F p u) H Q _ (same_upd1 S.fh eu) (.cons r' .nil) q fun v z ⟨n, qz⟩ e => k v _ _ _ qz ⟨F, ow, S.push (sc_rep n e)⟩⟩
end
section
variable {K : PySem.W.Frag} {F F' H H' : Hp} {v : V} {d : D}
abbrev lenS : RDNs := fun ds Q => ∃ a xs, ds = [a] ∧ a.its = some xs ∧ Q (.int xs.length)
theorem cn_len : CallNs K (fun xs H Q => ∃ p ys, xs = [.ref p] ∧ (SqL K H p ys ∨ SqT K H p ys) ∧ Q (.int ys.length) H) lenS := fun xs ds F H Q Qd s r ⟨a, ys, e1, e2, q⟩ k => by
  subst e1
  cases r with
  | cons r t =>
    cases t
    obtain ⟨p, vs, rfl, h, r2⟩ := r.row e2
    rw [← r2.len] at q
    exact ⟨p, vs, rfl, sq_mono s h, k _ _ q rfl⟩
abbrev lenStr : RDNs := fun ds Q => ∃ z, ds = [.str z] ∧ z.length ≤ sizeLine ∧ Q (.int z.length)
theorem cn_lenS : CallNs K (fun xs H Q => ∃ z, xs = [.str z] ∧ z.length ≤ sizeLine ∧ Q (.int z.length) H) lenStr := fun xs ds F H Q Qd s r ⟨z, e1, hz, q⟩ k => by
  subst e1
  cases r with
  | cons r t => cases t; cases r; exact ⟨z, rfl, hz, k _ _ q rfl⟩
abbrev int1S : RDNs := fun ds Q => ∃ i, ds = [.int i] ∧ Q (.int i)
theorem cn_int : CallNs K (fun xs H Q => (∃ i, xs = [.int i] ∧ Q (.int i) H) ∨ ∃ k, xs = [.bl k] ∧ Q (.int (if k then 1 else 0)) H) int1S := fun xs ds F H Q Qd s r ⟨i, e1, q⟩ k => by
  subst e1
  cases r with
  | cons r t => cases t; cases r; exact .inl ⟨i, rfl, k _ _ q rfl⟩
abbrev absS : RDNs := fun ds Q => ∃ i, ds = [.int i] ∧ Q (.int (if i < 0 then -i else i))
theorem cn_abs : CallNs K (fun xs H Q => ∃ i, xs = [.int i] ∧ Q (.int (if i < 0 then -i else i)) H) absS := fun xs ds F H Q Qd s r ⟨i, e1, q⟩ k => by
  subst e1
  cases r with
  | cons r t => cases t; cases r; exact ⟨i, rfl, k _ _ q rfl⟩
abbrev two (f : Int → Int → Int) : RDNs := fun ds Q => ∃ i j, ds = [.int i, .int j] ∧ Q (.int (f i j))
theorem cn_two {f : Int → Int → Int} : CallNs K (fun xs H Q => ∃ i j, xs = [.int i, .int j] ∧ Q (.int (f i j)) H) (two f) := fun xs ds F H Q Qd s r ⟨i, j, e1, q⟩ k => by
  subst e1
  cases r with
  | cons r t =>
    cases t with
    | cons r2 t => cases t; cases r; cases r2; exact ⟨i, j, rfl, k _ _ q rfl⟩
theorem repL_map {f : α → V} {g : α → D} (h : ∀ {F v a}, Rep K F v (g a) → v = f a) : ∀ {l : List α} {vs : List V}, RepL K F vs (l.map g) → vs = l.map f
  | [], _, .nil => rfl
  | a :: l, _, .cons r t => by rw [h r, repL_map h t]; rfl
theorem repL_int {l : List Int} {vs : List V} (r : RepL K F vs (l.map .int)) : vs = l.map V.int := repL_map (fun r => by cases r; rfl) r
theorem repL_bl {l : List Bool} {vs : List V} (r : RepL K F vs (l.map .bl)) : vs = l.map V.bl := repL_map (fun r => by cases r; rfl) r
abbrev allS (f : List Bool → Bool) : RDNs := fun ds Q => ∃ bs, (ds = [.lst (bs.map .bl)] ∨ ds = [.ro (bs.map .bl)]) ∧ Q (.bl (f bs))
theorem rep_lst {p : V} {xs : List D} (s : Same F H) (h : ([.lst xs] = ds) ∨ ([.ro xs] = ds)) {vs : List V} (r : RepL K F vs ds) : ∃ a ys, vs = [.ref a] ∧ SqL K H a ys ∧ RepL K F ys xs := by
  rcases h with rfl | rfl
  · cases r with
    | cons r t => cases t; cases r with
      | lst s1 r1 => exact ⟨_, _, rfl, s.seq (SqL.of s1), r1⟩
  · cases r with
    | cons r t => cases t; cases r with
      | ro s1 r1 => exact ⟨_, _, rfl, s.seq s1, r1⟩
theorem cn_all : CallNs K (rAll K) (allS fun bs => bs.all id) := fun xs ds F H Q Qd s r ⟨bs, e, q⟩ k => by
  obtain ⟨a, ys, rfl, h, r2⟩ := rep_lst (p := .non) s (e.imp Eq.symm Eq.symm) r
  cases repL_bl r2
  exact ⟨a, bs, rfl, h, k _ _ q rfl⟩
abbrev sumS : RDNs := fun ds Q => ∃ ns : List Int, (ds = [.lst (ns.map .int)] ∨ ds = [.ro (ns.map .int)]) ∧ Q (.int ns.sum)
theorem cn_sum : CallNs K (rSum K) sumS := fun xs ds F H Q Qd s r ⟨bs, e, q⟩ k => by
  obtain ⟨a, ys, rfl, h, r2⟩ := rep_lst (p := .non) s (e.imp Eq.symm Eq.symm) r
  cases repL_int r2
  exact ⟨a, bs, rfl, h, k _ _ q rfl⟩
/-- isinstance -/
inductive ClsD : D → Value → Prop where
  | ty (n : String) : ClsD (.ty n) (.type n)
  | own (C : Addr) : ClsD (.adr C) (.ref C)
inductive TyD (K : PySem.W.Frag) : D → Value → Prop where
  | non : TyD K .non (.type "NoneType")
  | bl (b : Bool) : TyD K (.bl b) (.type "bool")
  | int (i : Int) : TyD K (.int i) (.type "int")
  | str (x : Str) : TyD K (.str x) (.type "str")
  | lst (xs : List D) : TyD K (.lst xs) (.type "list")
  | tup (xs : List D) : TyD K (.tup xs) (.type "tuple")
  | rot (xs : List D) : TyD K (.rot xs) (.type "tuple")
  | obj {C : Addr} {fs : List (Str × D)} (cl : Cls K C) (i : SlX.SIsi K C) : TyD K (.obj C fs) (.ref C)
theorem sqt_ty {p : Addr} {vs : List V} (h : SqT K H p vs) : TyX K H (.ref p) (.type "tuple") := by
  rcases h with (h | ⟨o, h⟩) | ⟨o, its, n, e, cl, _⟩
  · exact .base (.tup h)
  · exact .fTuple h
  · exact .kTuple e cl
theorem tyD_x {t : Value} (s : Same F H) (r : Rep K F v d) (h : TyD K d t) : TyX K H v t := by
  cases h with
  | non => cases r; exact .base .non
  | bl b => cases r; exact .base (.bl b)
  | int i => cases r; exact .base (.int i)
  | str x => cases r; exact .base (.str x)
  | lst xs => cases r with | lst s1 _ => exact .base (.lst (s _ _ s1))
  | tup xs => cases r with | tup s1 _ => exact .base (.tup (s _ _ s1))
  | rot xs => cases r with | rot s1 _ _ _ => exact sqt_ty (sqt_mono s (.inl (.inr ⟨_, s1⟩)))
  | obj cl i => cases r with | obj s1 _ => exact .base (.ins (s _ _ s1) cl i.ca i.cn i.ct i.cm)
theorem clsD_v {u : Value} (r : Rep K F v d) (h : ClsD d u) : ClsV v u := by
  cases h with
  | ty n => cases r; exact .ty n
  | own C => cases r; exact .own C
abbrev isiS (K : PySem.W.Frag) : RDNs := fun ds Q => ∃ x c t u b, ds = [x, c] ∧ ClsD c u ∧ TyD K x t ∧ PySem.W.kitOne K t u = some b ∧ Q (.bl b)
theorem cn_isi : CallNs K (rIsi K) (isiS K) := fun xs ds F H Q Qd s r ⟨x, c, t, u, b, e, hc, ht, hk, q⟩ k => by
  subst e
  cases r with
  | cons r t =>
    cases t with
    | cons r2 t => cases t; exact ⟨_, _, _, u, b, rfl, clsD_v r2 hc, tyD_x s r ht, hk, k _ _ q rfl⟩
/-- list(row), tuple(row) -/
abbrev listN : RDN := fun ds Q => ∃ a xs, ds = [a] ∧ a.its = some xs ∧ Q (.own (.lst xs))
theorem cn_list : CallN K (fun xs H Q => ∃ p ys, xs = [.ref p] ∧ (SqL K H p ys ∨ SqT K H p ys) ∧ ∀ l, H l = none → Q (.ref l) (upd H l (.lst ys))) listN := fun xs ds F H Q Qd s r ⟨a, ys, e1, e2, q⟩ k => by
  subst e1
  cases r with
  | cons r t =>
    cases t
    obtain ⟨p, vs, rfl, h, r2⟩ := r.row e2
    exact ⟨p, vs, rfl, sq_mono s h, fun l n => k _ _ _ _ q (made_list n s r2)⟩
abbrev tupleN : RDN := fun ds Q => ∃ a xs, ds = [a] ∧ (a = .lst xs ∨ a = .ro xs ∨ a = .tup xs) ∧ Q (.d (.tup xs))
theorem cn_tuple : CallN K (fun xs H Q => ∃ p ys, xs = [.ref p] ∧ ((SqL K H p ys ∧ ∀ l, H l = none → Q (.ref l) (upd H l (.tup ys))) ∨ (SqT K H p ys ∧ Q (.ref p) H))) tupleN := fun xs ds F H Q Qd s r ⟨a, ys, e1, e2, q⟩ k => by
  subst e1
  cases r with
  | cons r t =>
    cases t
    rcases e2 with rfl | rfl | rfl
    · cases r with | lst s1 r1 => exact ⟨_, _, rfl, .inl ⟨s.seq (SqL.of s1), fun l n => k _ _ _ _ q (made_tup n s r1)⟩⟩
    · cases r with | ro s1 r1 => exact ⟨_, _, rfl, .inl ⟨s.seq s1, fun l n => k _ _ _ _ q (made_tup n s r1)⟩⟩
    · cases r with | tup s1 r1 => exact ⟨_, _, rfl, .inr ⟨SqT.of (s _ _ s1), k _ _ _ _ q (made_d s (.tup s1 r1))⟩⟩
end
end DL

set_option Elab.async false
set_option linter.all false
set_option maxRecDepth 100000
namespace DL
open PySem PySem.Spec PyProof.Rows L2
section
variable {X : Cx} {c : Fc} {W : WX}
/-! ### displays, unary, chains, truth -/
def tupD (ta : TDA) : TD := fun δ Q E => ta δ (fun as δ1 => ∃ ds, as = ds.map .d ∧ ds.length ≤ sizeLine ∧ Q (.d (.tup ds)) δ1) E
theorem pd_tup {es : List Expr} {ta : TDA} {k : Nat} {pos : Pos} (h : ∀ {t : TA}, PA X es t → PE X (.Tuple es k pos) (tTup t)) (ha : PA X es (LA X.K c W ta)) : PE X (.Tuple es k pos) (LE X.K c W (tupD ta)) :=
  PE_imp (h ha) fun σ H Q ⟨δ, tmp, Qd, Ed, S, t, k, w⟩ => ⟨δ, tmp, _, Ed, S, t, fun vs as δ1 F ow H1 ⟨ds, e, hz, q⟩ S1 ra => by
    subst e
    have r := args_d ra
    exact ⟨by rw [r.len]; exact hz, fun p n => k _ _ _ _ q ((made_tup n S1.fh r).stt S1)⟩, w⟩
def lstD (ta : TDA) : TD := fun δ Q E => ta δ (fun as δ1 => ∃ ds, as = ds.map .d ∧ ds.length ≤ sizeLine ∧ Q (.own (.lst ds)) δ1) E
theorem pd_lst {es : List Expr} {ta : TDA} {pos : Pos} (h : ∀ {t : TA}, PA X es t → PE X (.List es pos) (tLst t)) (ha : PA X es (LA X.K c W ta)) : PE X (.List es pos) (LE X.K c W (lstD ta)) :=
  PE_imp (h ha) fun σ H Q ⟨δ, tmp, Qd, Ed, S, t, k, w⟩ => ⟨δ, tmp, _, Ed, S, t, fun vs as δ1 F ow H1 ⟨ds, e, hz, q⟩ S1 ra => by
    subst e
    have r := args_d ra
    exact ⟨by rw [r.len]; exact hz, fun p n => k _ _ _ _ q ((made_list n S1.fh r).stt S1)⟩, w⟩
def negD (t : TD) : TD := fun δ Q E => t δ (fun x δ1 => ∃ i, x.toD = .int i ∧ Q (.d (.int (-i))) δ1) E
theorem pd_neg {e : Expr} {t : TD} {pos : Pos} (he : PE X e (LE X.K c W t)) : PE X (.UnaryOp .USub e pos) (LE X.K c W (negD t)) :=
  PE_imp (pe_un un_neg he) fun σ H Q ⟨δ, tmp, Qd, Ed, S, t, k, w⟩ => ⟨δ, tmp, _, Ed, S, t, fun v x δ1 H1 ⟨i, e, q⟩ ⟨F, ow, S1⟩ => by
    obtain ⟨F2, S2, _⟩ := S1.top_frz
    rw [e] at S2
    cases S2.top
    exact ⟨i, rfl, k _ _ _ _ q ⟨F2, ow, S2.pop.push (.int _)⟩⟩, w⟩
def chainD (rd rd' : RD2) (ta tb tc : TD) : TD := fun δ Q E => ta δ (fun x δ1 => tb δ1 (fun y δ2 => rd x.toD y.toD fun z => ∃ k, z = .d (.bl k) ∧ if k = true then tc δ2 (fun w δ3 => rd' y.toD w.toD fun z' => Q z' δ3) E else Q (.d (.bl false)) δ2) E) E
theorem pd_chain {a b e : Expr} {op op' : CmpOp} {r r' : R2} {rd rd' : RD2} {ta tb tc : TD} {pos : Pos} (ho : OpR X (compareOp op) r) (hd : Op2 X.K r rd) (ho' : OpR X (compareOp op') r') (hd' : Op2 X.K r' rd') (ha : PE X a (LE X.K c W ta)) (hb : PE X b (LE X.K c W tb)) (hc : PE X e (LE X.K c W tc)) (hm : lastMarks [op, op'] [b, e] = false := by rfl) :
    PE X (.Compare a [op, op'] [b, e] pos) (LE X.K c W (chainD rd rd' ta tb tc)) := PE_imp (pe_chain ho ho' ha hb hc (hm := hm)) fun σ H Q ⟨δ, tmp, Qd, Ed, S, t, k, w⟩ => by
  refine ⟨δ, tmp, _, Ed, S, t, fun x a δ1 H1 t1 S1 => ?_, w⟩
  refine ⟨δ1, _, _, Ed, S1, t1, fun y b δ2 H2 t2 ⟨F, ow, S2⟩ => ?_, w.push⟩
  obtain ⟨F', S3, _⟩ := S2.top_frz2
  refine hd x y _ _ F' H2 _ _ S3.fh S3.pop.top S3.top t2 fun v dv F2 H3 ⟨kk, e, q⟩ m => ?_
  subst e
  cases m with
  | d e r =>
    cases r
    refine ⟨kk, rfl, ?_⟩
    have S4 := S3.ext e
    cases kk with
    | false => exact k _ _ _ _ q ⟨F2, ow, S4.pop.pop.push (.bl _)⟩
    | true =>
      have S5 : SttF X.K c F2 ow δ2 ((y, .d b.toD) :: tmp) σ H3 := S4.pop.pop.push S4.top
      refine ⟨δ2, _, _, Ed, ⟨F2, ow, S5⟩, q, fun u z δ3 H4 q2 ⟨F5, ow5, S6⟩ => ?_, w.push⟩
      obtain ⟨F7, S7, s7⟩ := S6.top_frz
      exact hd' y u _ _ F7 H4 Q _ S7.fh S7.pop.top S7.top q2 fun v dv F8 H5 q3 m => k _ _ _ _ q3 (m.stt S7.pop.pop)
/-- a test whose value is a bool -/
def tvD (t : TD) : TDT := fun δ Q E => boolE t Q E δ
theorem ptd_val {e : Expr} {t : TD} (he : PE X e (LE X.K c W t)) (h : ∀ {t : TE}, PE X e t → PT X e (tB t)) : PT X e (LT X.K c W (tvD t)) :=
  PT_imp (h he) fun σ H Q ⟨δ, tmp, Qd, Ed, S, q, k, w⟩ => ⟨δ, tmp, _, _, S, q, fun v x δ' H' ⟨b, e, q'⟩ ⟨F, ow, S'⟩ => by
    subst e
    cases S'.top
    exact ⟨b, rfl, k _ _ _ q' ⟨F, ow, S'.pop⟩⟩, w⟩
/-! ### what is walked -/
/-- from turn i on the iterator J hands back the items: whatever grows, while src stands for v -/
structure Serve (K : PySem.W.Frag) (J : It) (v : V) (src : D) (items : List D) : Prop where
  go : ∀ (i : Nat) (F H : Hp), Same F H → Rep K F v src → i < items.length → J.go i H
  stop : ∀ (i : Nat) (F H : Hp), Same F H → Rep K F v src → items.length ≤ i → J.stop i H
  yld : ∀ (i : Nat) (F H : Hp) (x : V) (H' : Hp), Same F H → Rep K F v src → J.yld i H x H' → ∀ d, items[i]? = some d → ∃ F', Ext F H F' H' ∧ Rep K F' x d
abbrev TDI := DSt → (List D → DSt → Prop) → XD → Prop
def LI (K : PySem.W.Frag) (c : Fc) (W : WX) (t : TDI) : TI := fun σ H R => ∃ δ tmp Qd Ed, Stt K c δ tmp σ H ∧ t δ Qd Ed ∧ (∀ J v src items δ' H', Qd items δ' → Serve K J v src items → Stt K c δ' ((v, .d src) :: tmp) σ H' → R J H') ∧ WD K c W tmp Ed
theorem PI_imp {tg e : Expr} {t t' : TI} (h : PI X tg e t) (f : ∀ σ H R, t' σ H R → t σ H R) : PI X tg e t' := ⟨fun pins s σ H R I q => h.run pins s σ H R I (f _ _ _ q)⟩
theorem serve_list {K : PySem.W.Frag} {p : Addr} {src : D} {items : List D} (e : src = .lst items ∨ src = .ro items) : Serve K (Itl K p) (.ref p) src items := by
  have sq : ∀ {F H : Hp}, Same F H → Rep K F (.ref p) src → ∃ vs, SqL K H p vs ∧ RepL K F vs items := fun {F H} s r => by
    rcases e with rfl | rfl
    · cases r with | lst s1 r1 => exact ⟨_, s.seq (SqL.of s1), r1⟩
    · cases r with | ro s1 r1 => exact ⟨_, s.seq s1, r1⟩
  refine ⟨fun i F H s r hi => ?_, fun i F H s r hi => ?_, fun i F H x H' s r y d hd => ?_⟩
  · obtain ⟨vs, h, rl⟩ := sq s r
    obtain ⟨v, e, _⟩ := rl.get (List.getElem?_eq_getElem hi)
    exact ⟨vs, v, h, e⟩
  · obtain ⟨vs, h, rl⟩ := sq s r
    exact ⟨vs, h, by rw [rl.len]; exact hi⟩
  · obtain ⟨vs, h, rl⟩ := sq s r
    obtain ⟨rfl, y⟩ := y
    obtain ⟨v, e, rv⟩ := rl.get hd
    rw [y vs h] at e
    cases e
    exact ⟨F, Ext.refl s, rv⟩
theorem serve_tup {K : PySem.W.Frag} {p : Addr} {items : List D} : Serve K (Itt K p) (.ref p) (.tup items) items := by
  have sq : ∀ {F H : Hp}, Same F H → Rep K F (.ref p) (.tup items) → ∃ vs, SqT K H p vs ∧ RepL K F vs items := fun {F H} s r => by
    cases r with | tup s1 r1 => exact ⟨_, SqT.of (s _ _ s1), r1⟩
  refine ⟨fun i F H s r hi => ?_, fun i F H s r hi => ?_, fun i F H x H' s r y d hd => ?_⟩
  · obtain ⟨vs, h, rl⟩ := sq s r
    obtain ⟨v, e, _⟩ := rl.get (List.getElem?_eq_getElem hi)
    exact ⟨vs, v, h, e⟩
  · obtain ⟨vs, h, rl⟩ := sq s r
    exact ⟨vs, h, by rw [rl.len]; exact hi⟩
  · obtain ⟨vs, h, rl⟩ := sq s r
    obtain ⟨rfl, y⟩ := y
    obtain ⟨v, e, rv⟩ := rl.get hd
    rw [y vs h] at e
    cases e
    exact ⟨F, Ext.refl s, rv⟩
def listI (t : TD) : TDI := fun δ Q E => t δ (fun x δ1 => ∃ xs, (x.toD = .lst xs ∨ x.toD = .ro xs) ∧ Q xs δ1) E
def tupI (t : TD) : TDI := fun δ Q E => t δ (fun x δ1 => ∃ xs, x.toD = .tup xs ∧ Q xs δ1) E
def strI (t : TD) : TDI := fun δ Q E => t δ (fun x δ1 => ∃ z, x.toD = .str z ∧ Q (z.cps.toList.map fun ch => .str ⟨#[ch]⟩) δ1) E
theorem pid_list {tg e : Expr} {t : TD} (he : PE X e (LE X.K c W t)) : PI X tg e (LI X.K c W (listI t)) :=
  PI_imp (pi_list he) fun σ H R ⟨δ, tmp, Qd, Ed, S, q, k, w⟩ => ⟨δ, tmp, _, _, S, q, fun v x δ' H' ⟨xs, e, q'⟩ ⟨F, ow, S'⟩ => by
    obtain ⟨F2, S2, _⟩ := S'.top_frz
    obtain ⟨p, vs, rfl, h, r⟩ := S2.top.row (xs := xs) (by rcases e with e | e <;> rw [e] <;> rfl)
    have h' : ∃ xs, SqL X.K H' p xs := by
      have r0 := S2.top
      rcases e with e | e
      · rw [e] at r0; cases r0 with | lst s1 _ => exact ⟨_, S2.fh.seq (SqL.of s1)⟩
      · rw [e] at r0; cases r0 with | ro s1 _ => exact ⟨_, S2.fh.seq s1⟩
    exact ⟨p, rfl, h', k _ _ _ xs _ _ q' (serve_list e) ⟨F2, ow, S2⟩⟩, w⟩
theorem pid_tup {tg e : Expr} {t : TD} (he : PE X e (LE X.K c W t)) : PI X tg e (LI X.K c W (tupI t)) :=
  PI_imp (pi_tup he) fun σ H R ⟨δ, tmp, Qd, Ed, S, q, k, w⟩ => ⟨δ, tmp, _, _, S, q, fun v x δ' H' ⟨xs, e, q'⟩ ⟨F, ow, S'⟩ => by
    obtain ⟨F2, S2, _⟩ := S'.top_frz
    rw [e] at S2
    have r0 := S2.top
    cases r0 with
    | tup s1 _ => exact ⟨_, rfl, ⟨_, SqT.of (S2.fh _ _ s1)⟩, k _ _ _ xs _ _ q' serve_tup ⟨F2, ow, S2⟩⟩, w⟩
theorem pid_str {tg e : Expr} {t : TD} (he : PE X e (LE X.K c W t)) : PI X tg e (LI X.K c W (strI t)) :=
  PI_imp (pi_str he) fun σ H R ⟨δ, tmp, Qd, Ed, S, q, k, w⟩ => ⟨δ, tmp, _, _, S, q, fun v x δ' H' ⟨z, e, q'⟩ ⟨F, ow, S'⟩ => by
    obtain ⟨F2, S2, _⟩ := S'.top_frz
    rw [e] at S2
    have r0 := S2.top
    cases r0 with
    | str k1 =>
      refine ⟨z, rfl, k _ _ _ _ _ _ q' ⟨fun i F H s r hi => ?_, fun i F H s r hi => ?_, fun i F H x H' s r y d hd => ?_⟩ ⟨F2, ow, S2⟩⟩
      · show i < z.cps.size
        simpa using hi
      · show z.cps.size ≤ i
        simpa using hi
      · obtain ⟨rfl, ch, hc, rfl⟩ := y
        have hc' : z.cps.toList[i]? = some ch := by simpa using hc
        rw [List.getElem?_map, hc'] at hd
        cases hd
        exact ⟨F, Ext.refl s, .str (strOk_one k1 (List.mem_of_getElem? hc'))⟩, w⟩
def upto (lo : Int) (n : Nat) : List D := (List.range n).map fun k => .int (lo + (k : Nat))
theorem serve_range {K : PySem.W.Frag} {lo : Int} {n : Nat} {v : V} {src : D} : Serve K (Itr lo n) v src (upto lo n) := by
  have hl : (upto lo n).length = n := by simp [upto]
  refine ⟨fun i F H s r hi => ?_, fun i F H s r hi => ?_, fun i F H x H' s r y d hd => ?_⟩
  · rw [hl] at hi; exact hi
  · rw [hl] at hi; exact hi
  · obtain ⟨rfl, rfl⟩ := y
    unfold upto at hd
    rw [List.getElem?_map] at hd
    cases q : (List.range n)[i]? with
    | none => rw [q] at hd; cases hd
    | some j =>
      rw [q] at hd
      cases hd
      have : j = i := by
        have := (List.getElem?_eq_some_iff.mp q).2
        simpa using this.symm
      subst this
      exact ⟨F, Ext.refl s, .int _⟩
def range1I (ta : TDA) : TDI := fun δ Q E => ta δ (fun as δ1 => ∃ j, as = [.d (.int j)] ∧ -(2 ^ 62) ≤ j ∧ j < 2 ^ 62 ∧ Q (upto 0 j.toNat) δ1) E
theorem pid_range1 {tg a : Expr} {ta : TDA} {p pos : Pos} (hg : Gl X "range") (hm : X.mg "range" = none) (ha : PA X [a] (LA X.K c W ta)) (hs : starEach [a] X.env = [(false, eval a X.env)] := by rfl) : PI X tg (.Call (.Name "range" p) [a] [] pos) (LI X.K c W (range1I ta)) :=
  PI_imp (pi_range1 hg hm ha hs) fun σ H R ⟨δ, tmp, Qd, Ed, S, q, k, w⟩ => ⟨δ, tmp, _, _, S, q, fun vs as δ' F ow H' ⟨j, e, h1, h2, q'⟩ S' ra => by
    subst e
    cases ra with
    | d h t => cases t; cases h; exact ⟨j, rfl, h1, h2, k _ .non .non _ _ _ q' serve_range ⟨F, ow, S'.push .non⟩⟩, w⟩
/-! ### targets -/
abbrev TDG := D → DSt → (DSt → Prop) → Prop
/-- a target, of frozen things -/
def LG (K : PySem.W.Frag) (c : Fc) (vs : List Nat) (g : TDG) : TG := fun v σ H Q => ∃ δ tmp x Qd, Stt K c δ ((v, .d x) :: tmp) σ H ∧ g x δ Qd ∧ ∀ δ' σ' H', Qd δ' → Stt K c δ' tmp σ' H' → wipe σ' vs = wipe σ vs → Q σ' H'
theorem wipe_set {σ : L2.St} {i : Nat} {x : Option V} : ∀ {vs : List Nat}, i ∈ vs → wipe (σ.set i x) vs = wipe σ vs
  | v :: vs, h => by
    unfold wipe
    by_cases e : i ∈ vs
    · rw [wipe_set e]
    · have : i = v := (List.mem_cons.mp h).elim id fun z => absurd z e
      subst this
      have aux : ∀ (vs : List Nat), (wipe (σ.set i x) vs).set i none = (wipe σ vs).set i none := fun vs => by
        induction vs with
        | nil => unfold wipe; rw [List.set_set]
        | cons a r ih =>
          unfold wipe
          by_cases q : a = i
          · subst q; rw [List.set_set, List.set_set]; exact ih
          · rw [List.set_comm _ _ q, List.set_comm _ _ q, ih]
      exact aux vs
theorem PG_imp {e : Expr} {t t' : TG} (h : PG X e t) (f : ∀ v σ H Q, t' v σ H Q → t v σ H Q) : PG X e t' := ⟨fun pins s σ H x u Q I r q => h.run pins s σ H x u Q I r (f _ _ _ _ q)⟩
def nameG (i : Nat) : TDG := fun x δ Q => Q (δ.set i (some (.d x)))
theorem pgd_name {i : Nat} {vs : List Nat} {e : Expr} (h : PG X e (gName i)) (ni : i ∉ c.sl) (iv : i ∈ vs) : PG X e (LG X.K c vs (nameG i)) :=
  PG_imp h fun v σ H Q ⟨δ, tmp, x, Qd, ⟨F, ow, S⟩, q, k⟩ => k _ _ _ q (S.set' ni) (wipe_set iv)
/-- the items of a tuple to names -/
def namesG : List Nat → List D → DSt → (DSt → Prop) → Prop
  | [], [], δ, Q => Q δ
  | i :: is, x :: xs, δ, Q => namesG is xs (δ.set i (some (.d x))) Q
  | _, _, _, _ => False
def tupG (is : List Nat) : TDG := fun x δ Q => ∃ xs, x = .tup xs ∧ namesG is xs δ Q
def gNames : List Nat → TGs
  | [] => gNil
  | i :: is => gCons (gName i) (gNames is)
theorem names_run {K : PySem.W.Frag} {c : Fc} {Q : L2.St → Hp → Prop} {tmp : List (V × DV)} {ws : List Nat} {w0 : L2.St} : ∀ {is : List Nat} {xs : List D} {vs : List V} {δ : DSt} {σ : L2.St} {F H : Hp} {ow : Addr → Option Hold} {Qd : DSt → Prop}, (∀ i ∈ is, i ∉ c.sl ∧ i ∈ ws) → wipe σ ws = w0 → SttF K c F ow δ tmp σ H → RepL K F vs xs → namesG is xs δ Qd → (∀ δ' σ' H', Qd δ' → Stt K c δ' tmp σ' H' → wipe σ' ws = w0 → Q σ' H') → gNames is vs σ H Q
  | [], [], _, δ, σ, F, H, ow, Qd, _, hw, S, .nil, q, k => ⟨rfl, k _ _ _ q ⟨F, ow, S⟩ hw⟩
  | i :: is, x :: xs, _, δ, σ, F, H, ow, Qd, hn, hw, S, .cons r t, q, k => by
    refine ⟨_, _, rfl, ?_⟩
    show gNames is _ _ H Q
    rcases Nat.lt_or_ge i δ.length with hi | hi
    · obtain ⟨ow', S'⟩ := (S.push r).set hi (hn i List.mem_cons_self).1
      exact names_run (fun j hj => hn j (List.mem_cons_of_mem _ hj)) ((wipe_set (hn i List.mem_cons_self).2).trans hw) S' t q k
    · have q' : namesG is xs (δ.set i (some (.d x))) Qd := q
      rw [List.set_eq_of_length_le hi] at q'
      rw [List.set_eq_of_length_le (by rw [S.len]; exact hi)]
      exact names_run (fun j hj => hn j (List.mem_cons_of_mem _ hj)) hw S t q' k
  | [], _ :: _, _, _, _, _, _, _, _, _, _, _, _, q, _ => q.elim
  | _ :: _, [], _, _, _, _, _, _, _, _, _, _, _, q, _ => q.elim
theorem names_len {Q : DSt → Prop} : ∀ {is : List Nat} {xs : List D} {δ : DSt}, namesG is xs δ Q → xs.length = is.length
  | [], [], _, _ => rfl
  | _ :: is, _ :: xs, _, q => congrArg (· + 1) (names_len (is := is) (xs := xs) q)
  | [], _ :: _, _, q => q.elim
  | _ :: _, [], _, q => q.elim
theorem pgd_tup {is vs : List Nat} {e : Expr} {n : Nat} (h : PG X e (gTup X.K n (gNames is))) (hn : n = is.length) (ni : ∀ i ∈ is, i ∉ c.sl ∧ i ∈ vs) : PG X e (LG X.K c vs (tupG is)) :=
  PG_imp h fun v σ H Q ⟨δ, tmp, x, Qd, ⟨F, ow, S⟩, ⟨xs, e, q⟩, k⟩ => by
    subst e
    have r0 := S.top
    cases r0 with
    | tup s1 r1 =>
      refine ⟨_, _, rfl, SqT.of (S.fh _ _ s1), ?_, names_run ni rfl S.pop r1 q k⟩
      rw [r1.len, hn]
      exact names_len q
/-! ### for -/
def forD (g : TDG) (tb : TDS) (D : EndsD) : List DL.D → DSt → Prop
  | [], δ => D.nx δ
  | x :: xs, δ => g x δ fun δ1 => tb { D with nx := forD g tb D xs, ct := forD g tb D xs, bk := D.nx } δ1
def forS (ti : TDI) (g : TDG) (tb : TDS) : TDS := fun D δ => ti δ (fun xs δ1 => forD g tb D xs δ1) D.ex
theorem psd_for {tg iter : Expr} {body : List Stmt} {ti : TDI} {g : TDG} {tb : TDS} {pos : Pos} (hp : PassesOwn (model X.prog X.w) X.A X.env X.xe) (hc : X.calm = true) (hi : PI X tg iter (LI X.K c W ti)) {vs : List Nat} (hg : PG X tg (LG X.K c vs g)) (hb : PSs X body (LS X.K c W tb))
    (hs : ∀ x, foldedSetIterable iter X.env x = pure x := by intro _; rfl) : PS X (.For tg iter body [] pos) (LS X.K c W (forS ti g tb)) :=
  PS_imp (ps_for hp hc hi hg hb hs) fun D σ H ⟨δ, tmp, Dd, S, q, k, kr, kb, kc, w⟩ => by
    refine ⟨δ, tmp, _, _, S, q, fun J v src items δ1 H1 q1 sv S1 => ?_, w⟩
    refine ⟨fun i m σ H => m = items.length - i ∧ i ≤ items.length ∧ ∃ δ, Stt X.K c δ ((v, .d src) :: tmp) σ H ∧ forD g tb Dd (items.drop i) δ, ⟨items.length, by simp, Nat.zero_le _, δ1, S1, q1⟩, ?_⟩
    rintro i m σ2 H2 ⟨rfl, hi, δ2, ⟨F2, ow2, S2⟩, q2⟩
    by_cases hlt : i < items.length
    · refine .inr ⟨sv.go i F2 H2 S2.fh S2.top hlt, fun σ H => i + 1 ≤ items.length ∧ ∃ δ, Stt X.K c δ ((v, .d src) :: tmp) σ H ∧ forD g tb Dd (items.drop (i + 1)) δ, fun σ' H' h => ⟨items.length - (i + 1), by omega, rfl, h⟩, fun x H' y => ?_⟩
      obtain ⟨F3, e3, r3⟩ := sv.yld i F2 H2 x H' S2.fh S2.top y _ (List.getElem?_eq_getElem hlt)
      rw [List.drop_eq_getElem_cons hlt] at q2
      refine ⟨δ2, (v, .d src) :: tmp, _, _, ⟨F3, ow2, (S2.ext e3).push r3⟩, q2, fun δ4 σ4 H4 q4 S4 _ => ⟨δ4, (v, .d src) :: tmp, _, S4, q4, fun δ5 σ5 H5 q5 S5 => ⟨hlt, δ5, S5, q5⟩, fun u z δ5 σ5 H5 q5 ⟨F5, ow5, S5⟩ => ?_, fun δ5 σ5 H5 q5 ⟨F5, ow5, S5⟩ => k δ5 σ5 H5 q5 ⟨F5, ow5, S5.pop⟩, fun δ5 σ5 H5 q5 S5 => ⟨hlt, δ5, S5, q5⟩, w.push⟩⟩
      -- the answer is on top of what is walked
      obtain ⟨F6, S6⟩ : ∃ F6 ow6, SttF X.K c F6 ow6 δ5 ((u, z) :: tmp) σ5 H5 := by
        have tm := S5.tm
        cases z with
        | d y => exact ⟨F5, ow5, { S5.pop.pop with tm := ⟨tm.1, tm.2.2⟩ }⟩
        | own o =>
          obtain ⟨p, rfl, e, b, n, r⟩ := tm.1
          have S7 := S5.pop.pop.reown (ow' := owSet ow5 p (.t tmp.length)) (fun k a z _ => owSet_ne fun y => by subst y; rw [e] at z; cases z) (fun k a hk z _ => owSet_ne fun y => by
            subst y; rw [e] at z; cases z
            have : tmp.length + 1 < tmp.length := hk
            omega)
          exact ⟨F5, _, { S7 with tm := ⟨⟨p, rfl, owSet_at, b, .inl n.t, r⟩, S7.tm⟩ }⟩
      exact kr u z δ5 σ5 H5 q5 ⟨F6, S6⟩
    · have e : i = items.length := by omega
      subst e
      rw [List.drop_length] at q2
      exact .inl ⟨sv.stop _ F2 H2 S2.fh S2.top (Nat.le_refl _), k _ _ _ q2 ⟨F2, ow2, S2.pop⟩⟩
/-! ### while: the invariant is the reader's -/
/-! ### list comprehensions -/
def wipeD (δ : DSt) : List Nat → DSt
  | [] => δ
  | v :: vs => (wipeD δ vs).set v none
abbrev W0 : WX := fun _ _ _ _ => False
abbrev noX : XD := fun _ _ => False
def lcD (g : TDG) (tt : TDT) (te : TD) (vs : List Nat) : List DL.D → List DL.D → DSt → (List DL.D → DSt → Prop) → Prop
  | [], acc, δ, Q => Q acc δ
  | x :: xs, acc, δ, Q => g x δ fun δ1 => tt δ1 (fun b δ2 => if b = true then te δ2 (fun y δ3 => acc.length < sizeLine ∧ lcD g tt te vs xs (acc ++ [y.toD]) (wipeD δ3 vs) Q) noX else lcD g tt te vs xs acc (wipeD δ2 vs) Q) noX
def compD (ti : TDI) (g : TDG) (tt : TDT) (te : TD) (vs : List Nat) : TD := fun δ Q E => ti δ (fun xs δ1 => lcD g tt te vs xs [] (wipeD δ1 vs) fun acc δ2 => Q (.own (.lst acc)) δ2) E
def yesD : TDT := fun δ Q _ => Q true δ
end
section
variable {K : PySem.W.Frag} {c : Fc} {F F' H H' : Hp} {ow : Addr → Option Hold} {δ : DSt} {tmp : List (V × DV)} {σ : L2.St} {i : Nat} {p : Addr}
theorem SttF.del (S : SttF K c F ow δ tmp σ H) (ni : i ∉ c.sl) : SttF K c F ow (δ.set i none) tmp (σ.set i none) H := by
  refine { S with len := by rw [List.length_set, List.length_set]; exact S.len, sl := fun j z q => ?_, ps := fun k j p q1 q2 => ?_ }
  · by_cases e : i = j
    · subst e
      rcases Nat.lt_or_ge i δ.length with h | h
      · rw [List.getElem?_set_self h] at q; cases q
      · rw [List.getElem?_eq_none (by rw [List.length_set]; exact h)] at q; cases q
    · rw [List.getElem?_set_ne e] at q ⊢
      exact S.sl j z q
  · rw [List.getElem?_set_ne (fun z => ni (by rw [z]; exact List.mem_of_getElem? q1))]
    exact S.ps k j p q1 q2
theorem SttF.wipe (S : SttF K c F ow δ tmp σ H) : ∀ {vs : List Nat}, (∀ i ∈ vs, i ∉ c.sl) → SttF K c F ow (wipeD δ vs) tmp (L2.wipe σ vs) H
  | [], _ => S
  | v :: vs, h => (S.wipe fun i hi => h i (List.mem_cons_of_mem _ hi)).del (h v List.mem_cons_self)
theorem wipeD_get : ∀ {vs : List Nat} {i : Nat} {x : DV}, (wipeD δ vs)[i]? = some (some x) → i ∉ vs
  | [], _, _, _ => fun h => nomatch h
  | v :: vs, i, x, e => fun h => by
    have e : ((wipeD δ vs).set v none)[i]? = some (some x) := e
    by_cases q : v = i
    · subst q
      rcases Nat.lt_or_ge v (wipeD δ vs).length with z | z
      · rw [List.getElem?_set_self z] at e; cases e
      · rw [List.getElem?_eq_none (by rw [List.length_set]; exact z)] at e; cases e
    · rw [List.getElem?_set_ne q] at e
      exact wipeD_get e ((List.mem_cons.mp h).elim (fun z => absurd z.symm q) id)
/-- the slots that are forgotten may be anything -/
theorem SttF.unwipe {vs : List Nat} (S : SttF K c F ow (wipeD δ vs) tmp (L2.wipe σ vs) H) (h : ∀ i ∈ vs, i ∉ c.sl) : SttF K c F ow (wipeD δ vs) tmp σ H := by
  refine { S with len := by rw [← S.len, wipe_length], sl := fun j z q => ?_, ps := fun k j p q1 q2 => ?_ }
  · obtain ⟨v, e, r⟩ := S.sl j z q
    rw [wipe_out (wipeD_get q)] at e
    exact ⟨v, e, r⟩
  · have := S.ps k j p q1 q2
    rwa [wipe_out fun z => h j z (List.mem_of_getElem? q1)] at this
/-- the own object on top of the stack is changed -/
theorem SttF.writeT {o o' : OC} {ob : HO} (S : SttF K c F ow δ ((.ref p, .own o) :: tmp) σ H) (r' : OwnRep K F (upd H p ob) p o') : SttF K c F ow δ ((.ref p, .own o') :: tmp) σ (upd H p ob) := by
  obtain ⟨p', e0, e, b, w, r⟩ := S.tm.1
  cases e0
  have keep : ∀ {h : Hold} {v : V} {x : DV}, RepV K c F H ow h v x → h ≠ .t tmp.length → RepV K c F (upd H p ob) ow h v x := fun {h v x} y ne => by
    cases x with
    | d z => exact y
    | own z =>
      obtain ⟨a, rfl, ea, ba, wa, ra⟩ := y
      exact ⟨a, rfl, ea, ba, wa, ra.mono (Same.refl F) (upd_ne fun t => by subst t; rw [e] at ea; cases ea; exact ne rfl)⟩
  have keepT : ∀ {l : List (V × DV)}, l.length ≤ tmp.length → RepTmp K c F H ow l → RepTmp K c F (upd H p ob) ow l := fun {l} => by
    induction l with
    | nil => exact fun _ _ => True.intro
    | cons a r ih =>
      obtain ⟨v, x⟩ := a
      exact fun hl y => ⟨keep y.1 (fun z => by have := Hold.t.inj z; have : r.length + 1 ≤ tmp.length := hl; omega), ih (Nat.le_of_succ_le hl) y.2⟩
  refine ⟨fun a u z => ?_, S.f0, S.fn, fun a u z n => ?_, fun a z => ?_, S.len, fun j z qz => ?_, ⟨⟨p, rfl, e, b, w, r'⟩, keepT (Nat.le_refl _) S.tm.2⟩, S.ps⟩
  · rw [upd_ne (ne_of_none z b)]
    exact S.fh _ _ z
  · rw [upd_ne (fun t => by subst t; rw [w.t] at z; cases z)]
    exact S.fr a u z n
  · by_cases t : a = p
    · subst t; rw [upd_same] at z; cases z
    · rw [upd_ne t] at z; exact S.up a z
  · obtain ⟨v, e2, r2⟩ := S.sl j z qz
    exact ⟨v, e2, keep r2 fun t => nomatch t⟩
end
section
variable {X : Cx} {c : Fc} {W : WX}
theorem lift_comp {K : PySem.W.Frag} {ti : TDI} {g : TDG} {tt : TDT} {te : TD} {vs : List Nat} (hv : ∀ i ∈ vs, i ∉ c.sl) : ∀ σ H Q, LE K c W (compD ti g tt te vs) σ H Q → tLc (LI K c W ti) (LG K c vs g) (LT K c W0 tt) (LE K c W0 te) vs σ H Q := fun σ H Q ⟨δ, tmp, Qd, Ed, S, q, k, w⟩ => by
  refine ⟨δ, tmp, _, _, S, q, fun J v src items δ1 H1 q1 sv ⟨F1, ow1, S1⟩ => ?_, w⟩
  intro D nD
  have S2 := (S1.wipe hv).pushNew (o := .lst []) nD ⟨[], upd_same, .nil⟩
  refine ⟨fun i m H => m = items.length - i ∧ i ≤ items.length ∧ ∃ δ acc, Stt K c (wipeD δ vs) ((.ref D, .own (.lst acc)) :: (v, .d src) :: tmp) (wipe σ vs) H ∧ lcD g tt te vs (items.drop i) acc (wipeD δ vs) fun acc δ2 => Qd (.own (.lst acc)) δ2,
    ⟨items.length, by simp, Nat.zero_le _, δ1, [], ⟨_, _, S2⟩, q1⟩, ?_⟩
  rintro i m H2 ⟨rfl, hi, δ2, acc, ⟨F2, ow2, S3⟩, q2⟩
  have src2 : Rep K F2 v src := S3.tm.2.1
  by_cases hlt : i < items.length
  · refine .inr ⟨sv.go i F2 H2 S3.fh src2 hlt, fun H => i + 1 ≤ items.length ∧ ∃ δ acc, Stt K c (wipeD δ vs) ((.ref D, .own (.lst acc)) :: (v, .d src) :: tmp) (wipe σ vs) H ∧ lcD g tt te vs (items.drop (i + 1)) acc (wipeD δ vs) fun acc δ2 => Qd (.own (.lst acc)) δ2,
      fun H' h => ⟨items.length - (i + 1), by omega, rfl, h⟩, fun x H' y => ?_⟩
    obtain ⟨F3, e3, r3⟩ := sv.yld i F2 H2 x H' S3.fh src2 y _ (List.getElem?_eq_getElem hlt)
    rw [List.drop_eq_getElem_cons hlt] at q2
    refine ⟨wipeD δ2 vs, (.ref D, .own (.lst acc)) :: (v, .d src) :: tmp, _, _, ⟨F3, ow2, (S3.ext e3).push r3⟩, q2, fun δ4 σ4 H4 q4 S4 hw => ?_⟩
    have hw' : wipe σ4 vs = wipe σ vs := by
      rw [hw]
      have idem : ∀ (l : List Nat), (∀ i ∈ l, i ∈ vs) → wipe (wipe σ l) vs = wipe σ vs := fun l => by
        induction l with
        | nil => exact fun _ => rfl
        | cons a r ih =>
          intro h
          show wipe ((wipe σ r).set a none) vs = _
          rw [wipe_set (h a List.mem_cons_self)]
          exact ih fun i hi => h i (List.mem_cons_of_mem _ hi)
      exact idem vs fun _ h => h
    refine ⟨hw', δ4, _, _, noX, S4, q4, fun b δ5 H5 q5 ⟨F5, ow5, S5⟩ => ?_, fun _ _ _ _ _ _ _ _ z => z.elim⟩
    cases b with
    | false =>
      have S6 := S5.wipe hv
      rw [hw'] at S6
      exact ⟨hlt, δ5, acc, ⟨_, _, S6⟩, q5⟩
    | true =>
      refine ⟨δ5, _, _, noX, ⟨F5, ow5, S5⟩, q5, fun u z δ6 H6 ⟨hz, q6⟩ ⟨F6, ow6, S6⟩ => ?_, fun _ _ _ _ _ _ _ _ z => z.elim⟩
      obtain ⟨F7, S7, s7⟩ := S6.top_frz
      obtain ⟨p', e0, _, _, _, ws, ep, rw'⟩ := S7.tm.2.1
      cases e0
      have S8 := S7.pop.writeT (o' := .lst (acc ++ [z.toD])) (ob := .lst (ws ++ [u])) ⟨_, upd_same, rw'.app (.cons S7.top .nil)⟩
      have S9 := S8.wipe hv
      rw [hw'] at S9
      exact ⟨ws, ep, by rw [rw'.len]; exact hz, hlt, δ6, _, ⟨_, _, S9⟩, q6⟩
  · have e : i = items.length := by omega
    subst e
    rw [List.drop_length] at q2
    refine .inl ⟨sv.stop _ F2 H2 S3.fh src2 (Nat.le_refl _), k _ _ _ _ q2 ?_⟩
    have S4 := S3.unwipe hv
    -- the list is moved down on the stack
    obtain ⟨p', e0, e, b, n, r⟩ := S4.tm.1
    cases e0
    have S5 := S4.pop.pop.reown (ow' := owSet ow2 D (.t tmp.length)) (fun k a z _ => owSet_ne fun y => by subst y; rw [e] at z; cases z) (fun k a hk z _ => owSet_ne fun y => by
      subst y; rw [e] at z; cases z
      have : tmp.length + 1 < tmp.length := hk
      omega)
    exact ⟨F2, _, { S5 with tm := ⟨⟨D, rfl, owSet_at, b, .inl n.t, r⟩, S5.tm⟩ }⟩
theorem PTs_imp {e : List Expr} {t t' : TT} (h : PTs X e t) (f : ∀ σ H Q, t' σ H Q → t σ H Q) : PTs X e t' := ⟨fun pins s σ H Q I q => h.run pins s σ H Q I (f _ _ _ q)⟩
theorem ptsd_nil : PTs X [] (LT X.K c W yesD) := PTs_imp pts_nil fun σ H Q ⟨δ, tmp, Qd, Ed, S, q, k, w⟩ => k _ _ _ q S
theorem ptsd_one {e : Expr} {t : TDT} (h : PT X e (LT X.K c W t)) : PTs X [e] (LT X.K c W t) := pts_one h
theorem pd_lc {elt tg iter : Expr} {ifs : List Expr} {scope : Scope} {own : List (Str × Nat)} {pos : Pos} {ti : TDI} {g : TDG} {tt : TDT} {te : TD} (hc : X.calm = true) (hN : X.N.Nodup) (hi : PI X tg iter (LI X.K c W ti)) (ok : BlkOk X.N X.env.scope scope own)
    (hg : ∀ (s : Shared) (H : Hp) (C : Addr) (cl : List (Str × Addr)) (fp : List Addr), PG (X.blk s H scope (compEnvC scope cl C X.env) fp) tg (LG X.K c (own.map (·.2)) g)) (ht : ∀ (s : Shared) (H : Hp) (C : Addr) (cl : List (Str × Addr)) (fp : List Addr), PTs (X.blk s H scope (compEnvC scope cl C X.env) fp) ifs (LT X.K c W0 tt))
    (he : ∀ (s : Shared) (H : Hp) (C : Addr) (cl : List (Str × Addr)) (fp : List Addr), PE (X.blk s H scope (compEnvC scope cl C X.env) fp) elt (LE X.K c W0 te)) (hv : ∀ i ∈ own.map (·.2), i ∉ c.sl) (hs : ∀ x, foldedSetIterable iter X.env x = pure x := by intro _; rfl) :
    PE X (.ListComp elt [⟨tg, iter, ifs, 0⟩] scope pos) (LE X.K c W (compD ti g tt te (own.map (·.2)))) := PE_imp (pe_lc hc hN hi ok hg ht he hs) (lift_comp hv)
/-- x = [..] on one line: the list is x's own, or frozen -/
def setLcD (i : Nat) (o : Bool) (t : TD) : TDS := fun D δ => t δ (fun x δ1 => D.nx (δ1.set i (some (asD o x)))) D.ex
theorem psd_setLc {i : Nat} {o : Bool} {y : Str} {py : Pos} {elt tg iter : Expr} {ifs : List Expr} {scope : Scope} {own : List (Str × Nat)} {pos spos : Pos} {ti : TDI} {g : TDG} {tt : TDT} {te : TD} (ni : i ∉ c.sl) (hc : X.calm = true) (hN : X.N.Nodup) (hy : X.N[i]? = some y) (hyl : X.env.scope.names.lookup y = some .local)
    (hsw : swapsWith (.ListComp elt [⟨tg, iter, ifs, 0⟩] scope pos) (some (.Name y py)) spos.line X.env = pure true) (hi : PI X tg iter (LI X.K c W ti)) (ok : BlkOk X.N X.env.scope scope own)
    (hg : ∀ (s : Shared) (H : Hp) (C : Addr) (cl : List (Str × Addr)) (fp : List Addr), PG (X.blk s H scope (compEnvC scope cl C X.env) fp) tg (LG X.K c (own.map (·.2)) g)) (ht : ∀ (s : Shared) (H : Hp) (C : Addr) (cl : List (Str × Addr)) (fp : List Addr), PTs (X.blk s H scope (compEnvC scope cl C X.env) fp) ifs (LT X.K c W0 tt))
    (he : ∀ (s : Shared) (H : Hp) (C : Addr) (cl : List (Str × Addr)) (fp : List Addr), PE (X.blk s H scope (compEnvC scope cl C X.env) fp) elt (LE X.K c W0 te)) (hv : ∀ i ∈ own.map (·.2), i ∉ c.sl) (hs : ∀ x, foldedSetIterable iter X.env x = pure x := by intro _; rfl) :
    PS X (.Assign [.Name y py] (.ListComp elt [⟨tg, iter, ifs, 0⟩] scope pos) spos) (LS X.K c W (setLcD i o (compD ti g tt te (own.map (·.2))))) :=
  PS_imp (ps_setLc (i := i) hc hN hy hyl hsw hi ok hg ht he hs) fun D σ H ⟨δ, tmp, Dd, S, q, k, kr, kb, kc, w⟩ => by
    show tLc _ _ _ _ _ σ H fun x H1 => gName i x σ H1 D.nx
    refine lift_comp hv _ _ _ ⟨δ, tmp, _, _, S, q, fun v x δ' H' q' ⟨F, ow, S'⟩ => ?_, w⟩
    obtain ⟨F', S2⟩ := S'.top_as o
    exact k _ _ _ q' (S2.set' ni)
end
end DL

set_option Elab.async false
set_option linter.all false
set_option maxRecDepth 100000
namespace DL
open PySem PySem.Spec PyProof.Rows L2
/-! ### a def's body keeps its promise -/
/-- the slots of the arguments that may change -/
def ownIx : List DV → Nat → List Nat
  | [], _ => []
  | .d _ :: r, k => ownIx r (k + 1)
  | .own _ :: r, k => k :: ownIx r (k + 1)
def startD (n : Nat) (as : List DV) : DSt := as.map some ++ List.replicate (n - as.length) none
def takeB (δ : DSt) : List Nat → List OC → Prop
  | [], os => os = []
  | i :: is, os => ∃ o r, os = o :: r ∧ δ[i]? = some (some (.own o)) ∧ takeB δ is r
def owOf : List DV → List V → Nat → Addr → Option Hold
  | .own _ :: as, .ref p :: vs, k => fun a => if a = p then some (.s k) else owOf as vs (k + 1) a
  | _ :: as, _ :: vs, k => owOf as vs (k + 1)
  | _, _, _ => fun _ => none
section
variable {K : PySem.W.Frag} {c : Fc} {F H : Hp}
theorem ArgsRep.len : ∀ {vs : List V} {as : List DV} {ps : List Addr}, ArgsRep K F H vs as ps → vs.length = as.length
  | _, _, _, .nil => rfl
  | _, _, _, .d _ t => congrArg (· + 1) t.len
  | _, _, _, .own _ _ _ t => congrArg (· + 1) t.len
theorem ArgsRep.plen : ∀ {vs : List V} {as : List DV} {ps : List Addr} {k : Nat}, ArgsRep K F H vs as ps → ps.length = (ownIx as k).length
  | _, _, _, _, .nil => rfl
  | _, _, _, k, .d _ t => t.plen (k := k + 1)
  | _, _, _, k, .own _ _ _ t => congrArg (· + 1) (t.plen (k := k + 1))
theorem owOf_in : ∀ {vs : List V} {as : List DV} {ps : List Addr} {k : Nat} {a : Addr} {h : Hold}, ArgsRep K F H vs as ps → owOf as vs k a = some h → a ∈ ps
  | _, _, _, _, _, _, .nil, e => nomatch e
  | _, _, _, k, a, h, .d _ t, e => owOf_in (k := k + 1) t e
  | _, _, _, k, a, h, .own (p := p) _ _ _ t, e => by
    have e : (if a = p then some (Hold.s k) else owOf _ _ (k + 1) a) = some h := e
    by_cases q : a = p
    · subst q; exact List.mem_cons_self
    · rw [if_neg q] at e; exact List.mem_cons_of_mem _ (owOf_in t e)
theorem ArgsRep.at' : ∀ {vs : List V} {as : List DV} {ps : List Addr} {k j : Nat} {x : DV}, ArgsRep K F H vs as ps → (∀ p ∈ ps, p ∈ c.ad) → (∀ i ∈ ownIx as k, i ∈ c.sl) → as[j]? = some x → ∃ v, vs[j]? = some v ∧ RepV K c F H (owOf as vs k) (.s (k + j)) v x
  | _, _, _, _, 0, _, .d h _, _, _, e => by cases e; exact ⟨_, rfl, h⟩
  | _, _, _, k, 0, _, .own n h _ _, hp, hs, e => by
    cases e
    exact ⟨_, rfl, _, rfl, if_pos rfl, n, .inr ⟨hp _ List.mem_cons_self, k, rfl, hs k List.mem_cons_self⟩, h⟩
  | _, _, _, k, j + 1, x, .d _ t, hp, hs, e => by
    obtain ⟨v, e1, r⟩ := t.at' (k := k + 1) (j := j) hp hs e
    refine ⟨v, e1, ?_⟩
    rw [show k + (j + 1) = k + 1 + j by omega]
    exact r
  | _, _, _, k, j + 1, x, .own (p := p) n h np t, hp, hs, e => by
    obtain ⟨v, e1, r⟩ := t.at' (k := k + 1) (j := j) (fun p hq => hp p (List.mem_cons_of_mem _ hq)) (fun i hi => hs i (List.mem_cons_of_mem _ hi)) e
    refine ⟨v, e1, ?_⟩
    rw [show k + (j + 1) = k + 1 + j by omega]
    refine r.reown fun q _ eq _ => ?_
    have : q ≠ p := fun z => np (by rw [← z]; exact owOf_in t eq)
    exact if_neg this
theorem ArgsRep.ix : ∀ {vs : List V} {as : List DV} {ps : List Addr} {k m i : Nat} {p : Addr}, ArgsRep K F H vs as ps → (ownIx as k)[m]? = some i → ps[m]? = some p → k ≤ i ∧ vs[i - k]? = some (.ref p)
  | _, _, _, k, m, i, p, .nil, e, _ => by simp [ownIx] at e
  | _, _, _, k, m, i, p, .d _ t, e, e' => by
    obtain ⟨h1, h2⟩ := t.ix (k := k + 1) e e'
    refine ⟨by omega, ?_⟩
    rw [show i - k = (i - (k + 1)) + 1 by omega]
    exact h2
  | _, _, _, k, 0, i, p, .own _ _ _ _, e, e' => by
    cases e; cases e'
    rw [Nat.sub_self]
    exact ⟨Nat.le_refl _, rfl⟩
  | _, _, _, k, m + 1, i, p, .own _ _ _ t, e, e' => by
    obtain ⟨h1, h2⟩ := t.ix (k := k + 1) (m := m) e e'
    refine ⟨by omega, ?_⟩
    rw [show i - k = (i - (k + 1)) + 1 by omega]
    exact h2
/-- at the entry -/
theorem entry {N : List Str} {vs : List V} {as : List DV} {ps : List Addr} (s : Same F H) (A : ArgsRep K F H vs as ps) : SttF K ⟨ownIx as 0, ps, F, H⟩ F (owOf as vs 0) (startD N.length as) [] (L2.start N vs) H := by
  have hl := A.len
  refine ⟨s, Same.refl F, fun a h => .inl h, fun a o e _ => e, fun a e => e, ?_, fun i x e => ?_, True.intro, fun m i p e1 e2 => ?_⟩
  · unfold L2.start startD
    rw [List.length_append, List.length_append, List.length_map, List.length_map, List.length_replicate, List.length_replicate, hl]
  · unfold startD at e
    rcases Nat.lt_or_ge i as.length with h | h
    · rw [List.getElem?_append_left (by rw [List.length_map]; exact h), List.getElem?_map, List.getElem?_eq_getElem h] at e
      have e := Option.some.inj (Option.some.inj e)
      obtain ⟨v, e1, r⟩ := A.at' (c := ⟨ownIx as 0, ps, F, H⟩) (k := 0) (j := i) (fun _ h => h) (fun _ h => h) (by rw [List.getElem?_eq_getElem h, e])
      refine ⟨v, ?_, by rw [Nat.zero_add] at r; exact r⟩
      unfold L2.start
      rw [List.getElem?_append_left (by rw [List.length_map, hl]; exact h), List.getElem?_map, e1]
      rfl
    · rw [List.getElem?_append_right (by rw [List.length_map]; exact h)] at e
      cases q : (List.replicate (N.length - as.length) (none : Option DV))[i - (as.map some).length]? with
      | none => rw [q] at e; cases e
      | some z =>
        rw [q] at e
        have := List.mem_of_getElem? q
        rw [(List.mem_replicate.mp this).2] at e
        cases e
  · obtain ⟨_, h⟩ := A.ix (k := 0) e1 e2
    have h : vs[i]? = some (.ref p) := h
    unfold L2.start
    rw [List.getElem?_append_left (by rw [List.length_map]; exact set_lt h), List.getElem?_map, h]
    rfl
theorem takeB_reps {F' H' : Hp} {ow : Addr → Option Hold} {δ : DSt} {tmp : List (V × DV)} {σ : L2.St} (S : SttF K c F' ow δ tmp σ H') : ∀ {is : List Nat} {ps : List Addr} {os : List OC}, ps.length = is.length → (∀ (k i : Nat) (p : Addr), is[k]? = some i → ps[k]? = some p → σ[i]? = some (some (.ref p))) → takeB δ is os → OwnsRep K F' H' ps os
  | [], [], _, _, _, e => by cases e; exact .nil
  | i :: is, p :: ps, _, hl, hs, ⟨o, r, e, ei, t⟩ => by
    subst e
    obtain ⟨v, e1, p', rfl, _, n, _, q⟩ := S.sl _ _ ei
    have e2 := hs 0 i p rfl rfl
    rw [e1] at e2
    cases e2
    exact .cons n q (takeB_reps S (Nat.succ.inj hl) (fun k i p a b => hs (k + 1) i p a b) t)
  | [], _ :: _, _, h, _, _ => nomatch h
  | _ :: _, [], _, h, _, _ => nomatch h
end
/-- what a def's end must bring -/
def endsD (sl : List Nat) (Qd : DV → List OC → Prop) (Ed : Ex → List OC → Prop) : EndsD where
  nx := fun δ => ∃ os, takeB δ sl os ∧ Qd (.d .non) os
  rt := fun x δ => ∃ os, takeB δ sl os ∧ Qd x os
  ex := fun x δ => ∃ os, takeB δ sl os ∧ Ed x os
section
variable {P : Program} {w : World} {K : PySem.W.Frag} {mg : Str → Option Value} {base : Heap}
theorem okD {x qual : Str} {st : Stmt} {f : Addr} {fd : FuncData} {N ps : List Str} {k : Nat} {sd : SpD} (G : Fun K x qual st f fd) (S : FnScope N ps (defScope st)) (sl : List Nat) (len : ∀ as Q E, sd as Q E → as.length = ps.length ∧ ownIx as 0 = sl)
    (hbody : ∃ t : TDS, (∀ (cdv : Value) (A : Around) (outer : List Env) (s : Shared) (H : Hp) (E : XK) (ad : List Addr) (F0 H0 : Hp), Room k (A.deeper (envOfC qual (defScope st) s.heap.objs.size f cdv)) →
        PSs (cxOf (L2.CX P w) P w K mg base N qual (defScope st) f cdv A outer s H E) (defBody st) (LS K ⟨sl, ad, F0, H0⟩ (fun cls d _ H => E cls d H) t)) ∧
      ∀ as Qd Ed, sd as Qd Ed → t (endsD sl Qd Ed) (startD N.length as)) :
    FnOk P w K mg base (L2.CX P w) (k + 1) f fd ps (spOf K sd) := by
  obtain ⟨t, ht, hq⟩ := hbody
  refine G.okX S (fun vs H Q E ⟨F, as, qs, Qd, Ed, _, A, h, _⟩ => by rw [A.len]; exact (len _ _ _ h).1) fun cdv A outer s H vs Q E hr ⟨F, as, qs, Qd, Ed, sm, ar, h, kq, ke⟩ => ?_
  have hsl := (len _ _ _ h).2
  have S0 := entry (N := N) sm ar
  rw [hsl] at S0
  have hpl : qs.length = sl.length := by rw [← hsl]; exact ar.plen
  have post : ∀ {δ' : DSt} {tmp : List (V × DV)} {σ' : L2.St} {F' H' : Hp} {ow' : Addr → Option Hold} {os : List OC}, SttF K ⟨sl, qs, F, H⟩ F' ow' δ' tmp σ' H' → takeB δ' sl os → Post K F H qs os F' H' := fun {δ' tmp σ' F' H' ow' os} S' tb =>
    ⟨S'.f0, S'.fh, S'.fr, S'.up, S'.fn, takeB_reps S' hpl S'.ps tb⟩
  refine ⟨_, ht cdv A outer s H E qs F H hr, startD N.length as, [], endsD sl Qd Ed, ⟨F, _, S0⟩, hq as Qd Ed h, fun δ' σ' H' ⟨os, tb, q⟩ ⟨F', ow', S'⟩ => ?_, fun v x δ' σ' H' ⟨os, tb, q⟩ ⟨F', ow', S'⟩ => ?_, fun _ _ _ z => z.elim, fun _ _ _ z => z.elim, fun x δ' σ' H' F' ow' cls d ⟨os, tb, q⟩ S' er => ?_⟩
  · exact kq .non (.d .non) os F' H' q (post S' tb) .non
  · refine kq v x os F' H' q (post S' tb) ?_
    cases x with
    | d y => exact S'.top
    | own o =>
      obtain ⟨p, rfl, e, b, n, r⟩ := S'.tm.1
      exact ⟨p, rfl, n.t, b, r⟩
  · exact ke cls d x os F' H' q (post S' tb) er
end
/-! ### own lists that change -/
section
variable {X : Cx} {c : Fc} {W : WX}
/-- xs[i] = e, xs the own list in slot j -/
def setItem (j : Nat) (ti te : TD) : TDS := fun D δ => ∃ o, δ[j]? = some (some (.own o)) ∧ te δ (fun y δ1 => ti δ1 (fun k δ2 => ∃ xs n m, δ2[j]? = some (some (.own (.lst xs))) ∧ k.toD = .int n ∧ ixN xs.length n = some m ∧ D.nx (δ2.set j (some (.own (.lst (xs.set m y.toD)))))) D.ex) D.ex
theorem psd_setItem {j : Nat} {x : Str} {e ei : Expr} {te ti : TD} {pos p2 p3 : Pos} (h : ∀ {te : TE} {g : TG}, PE X e te → PG X (.Subscript (.Name x p3) ei p2) g → PS X (.Assign [.Subscript (.Name x p3) ei p2] e pos) (tAsg te g))
    (hg : ∀ {to ti : TE} {t : TSet}, PE X (.Name x p3) to → PE X ei ti → PSet X t → PG X (.Subscript (.Name x p3) ei p2) (gSub to ti t)) (hv : PE X (.Name x p3) (tVar j)) (he : PE X e (LE X.K c W te)) (hi : PE X ei (LE X.K c W ti)) :
    PS X (.Assign [.Subscript (.Name x p3) ei p2] e pos) (LS X.K c W (setItem j ti te)) :=
  PS_imp (h he (hg hv hi set_list)) fun D σ H ⟨δ, tmp, Dd, ⟨F, ow, S⟩, ⟨o, eo, q⟩, k, kr, kb, kc, w⟩ => by
    obtain ⟨v, e1, p, rfl, _⟩ := S.sl _ _ eo
    refine ⟨δ, tmp, _, _, ⟨F, ow, S⟩, q, fun y d δ1 H1 q1 ⟨F1, ow1, S1⟩ => ?_, w⟩
    obtain ⟨F2, S2, _⟩ := S1.top_frz
    refine ⟨_, e1, δ1, _, _, _, ⟨F2, ow1, S2⟩, q1, fun u z δ2 H2 ⟨xs, n, m, ej, ek, em, q2⟩ ⟨F3, ow3, S3⟩ => ?_, w.push⟩
    obtain ⟨F4, S4, _⟩ := S3.top_frz
    rw [ek] at S4
    cases S4.top
    obtain ⟨v', e2, p', rfl, _, _, _, vs, ep, r⟩ := S4.sl _ _ ej
    rw [e1] at e2
    cases e2
    refine ⟨p, vs, n, m, rfl, rfl, ep, by rw [r.len]; exact em, k _ _ _ q2 ⟨F4, ow3, ?_⟩⟩
    exact (S4.pop.write (o' := .lst (xs.set m d.toD)) ej e1 ⟨_, upd_same, r.set S4.pop.top m⟩).pop
/-- a method of the own list in slot j: it changes, a value comes back -/
abbrev RDM := List D → List D → (D → List D → Prop) → Prop
def MtO (K : PySem.W.Frag) (r : V → List V → Hp → VK → Prop) (rd : RDM) : Prop := ∀ (p : Addr) (vs us : List V) (xs ds : List D) (F H : Hp) (Q : VK) (Qd : D → List D → Prop), Same F H → H p = some (.lst vs) → RepL K F vs xs → RepL K F us ds → rd xs ds Qd →
  (∀ v z ws zs, Qd z zs → Rep K F v z → RepL K F ws zs → Q v (upd H p (.lst ws))) → r (.ref p) us H Q
def methO (j : Nat) (rd : RDM) (ta : TDA) : TD := fun δ Q E => ∃ x0, δ[j]? = some (some (.own (.lst x0))) ∧ ta δ (fun as δ1 => ∃ ds xs, as = ds.map .d ∧ δ1[j]? = some (some (.own (.lst xs))) ∧ rd xs ds fun z zs => Q (.d z) (δ1.set j (some (.own (.lst zs))))) E
theorem pd_methO {j : Nat} {x m : Str} {es : List Expr} {ta : TDA} {r : V → List V → Hp → VK → Prop} {rd : RDM} {pos p2 p3 : Pos} (h : ∀ {to : TE} {t : TA}, PE X (.Name x p3) to → PA X es t → PE X (.Call (.Attribute (.Name x p3) m p2) es [] pos) (tBM X.K "list" r to t)) (hr : MtO X.K r rd)
    (hv : PE X (.Name x p3) (tVar j)) (ha : PA X es (LA X.K c W ta)) : PE X (.Call (.Attribute (.Name x p3) m p2) es [] pos) (LE X.K c W (methO j rd ta)) :=
  PE_imp (h hv ha) fun σ H Q ⟨δ, tmp, Qd, Ed, ⟨F, ow, S⟩, ⟨o, eo, q⟩, k, w⟩ => by
    obtain ⟨v, e1, p, rfl, _, _, _, vs0, ep0, _⟩ := S.sl _ _ eo
    refine ⟨_, e1, .inl ⟨rfl, vs0, SqL.of ep0⟩, δ, tmp, _, Ed, ⟨F, ow, S⟩, q, fun us as δ1 F1 ow1 H1 ⟨ds, xs, ea, ej, q1⟩ S1 ra => ?_, w⟩
    subst ea
    obtain ⟨v', e2, p', rfl, _, n, _, vs, ep, rr⟩ := S1.sl _ _ ej
    rw [e1] at e2
    cases e2
    exact hr p vs us xs ds F1 H1 Q _ S1.fh ep rr (args_d ra) q1 fun v z ws zs qz rz rws => k _ _ _ _ qz ⟨F1, ow1, (S1.write (o' := .lst zs) ej e1 ⟨_, upd_same, rws⟩).push rz⟩
end
section
variable {K : PySem.W.Frag}
abbrev appM : RDM := fun xs ds Q => ∃ d, ds = [d] ∧ xs.length < sizeLine ∧ Q .non (xs ++ [d])
theorem mo_append : MtO K rAppend appM := fun p vs us xs ds F H Q Qd s ep r ra ⟨d, e, hz, q⟩ k => by
  subst e
  cases ra with
  | cons ra t => cases t; exact ⟨p, vs, _, rfl, rfl, ep, by rw [r.len]; exact hz, k _ _ _ _ q .non (r.app (.cons ra .nil))⟩
abbrev popM : RDM := fun xs ds Q => ∃ i k d, ds = [.int i] ∧ -(2 ^ 63) ≤ i ∧ i < 2 ^ 63 ∧ seqIndex? i xs.length = some k ∧ xs[k]? = some d ∧ Q d (xs.eraseIdx k)
theorem mo_pop : MtO K rPopAt popM := fun p vs us xs ds F H Q Qd s ep r ra ⟨i, j, d, e, h1, h2, hk, hd, q⟩ k => by
  subst e
  cases ra with
  | cons ra t =>
    cases t; cases ra
    obtain ⟨v, ev, rv⟩ := r.get hd
    exact ⟨p, vs, i, j, v, rfl, rfl, ep, h1, h2, by rw [r.len]; exact hk, ev, k _ _ _ _ q rv (r.erase j)⟩
end
/-! ### what is raised -/
section
variable {X : Cx} {c : Fc} {W : WX}
theorem repF_zip {K : PySem.W.Frag} {F : Hp} : ∀ {ns : List Str} {vs : List V} {ds : List D}, RepL K F vs ds → RepF K F (ns.zip vs) (ns.zip ds)
  | [], _, _, .nil => .nil
  | [], _, _, .cons _ _ => .nil
  | n :: ns, _, _, .nil => .nil
  | n :: ns, _, _, .cons h t => .cons h (repF_zip t)
/-! ### try -/
end
end DL

set_option Elab.async false
set_option linter.all false
set_option maxRecDepth 100000
namespace DL
open PySem PySem.Spec PyProof.Rows L2
section
variable {X : Cx} {c : Fc} {W : WX}
/-! ### comparisons as tests -/
theorem ptd_cmp {a b : Expr} {op : CmpOp} {r : R2} {rd : RD2} {ta tb : TD} {pos : Pos} (ho : OpR X (compareOp op) r) (hd : Op2 X.K r rd) (ha : PE X a (LE X.K c W ta)) (hb : PE X b (LE X.K c W tb)) (hm : behindInMarks op b = false) : PT X (.Compare a [op] [b] pos) (LT X.K c W (tvD (opD rd ta tb))) :=
  PT_imp (pt_cmpR ho ha hb hm) fun σ H Q ⟨δ, tmp, Qd, Ed, S, q, k, w⟩ => lift_op hd σ H _ ⟨δ, tmp, _, Ed, S, q, fun v x δ' H' ⟨b, e, q'⟩ ⟨F, ow, S'⟩ => by
    subst e
    cases S'.top
    exact ⟨b, rfl, k _ _ _ q' ⟨F, ow, S'.pop⟩⟩, w⟩
theorem lift_chain {K : PySem.W.Frag} {r r' : R2} {rd rd' : RD2} {ta tb tc : TD} (hd : Op2 K r rd) (hd' : Op2 K r' rd') : ∀ σ H Q, LE K c W (chainD rd rd' ta tb tc) σ H Q → tChain r r' (LE K c W ta) (LE K c W tb) (LE K c W tc) σ H Q := fun σ H Q ⟨δ, tmp, Qd, Ed, S, t, k, w⟩ => by
  refine ⟨δ, tmp, _, Ed, S, t, fun x a δ1 H1 t1 S1 => ?_, w⟩
  refine ⟨δ1, _, _, Ed, S1, t1, fun y b δ2 H2 t2 ⟨F, ow, S2⟩ => ?_, w.push⟩
  obtain ⟨F', S3, _⟩ := S2.top_frz2
  refine hd x y _ _ F' H2 _ _ S3.fh S3.pop.top S3.top t2 fun v dv F2 H3 ⟨kk, e, q⟩ m => ?_
  subst e
  cases m with
  | d e r =>
    cases r
    refine ⟨kk, rfl, ?_⟩
    have S4 := S3.ext e
    cases kk with
    | false => exact k _ _ _ _ q ⟨F2, ow, S4.pop.pop.push (.bl _)⟩
    | true =>
      have S5 : SttF K c F2 ow δ2 ((y, .d b.toD) :: tmp) σ H3 := S4.pop.pop.push S4.top
      refine ⟨δ2, _, _, Ed, ⟨F2, ow, S5⟩, q, fun u z δ3 H4 q2 ⟨F5, ow5, S6⟩ => ?_, w.push⟩
      obtain ⟨F7, S7, s7⟩ := S6.top_frz
      exact hd' y u _ _ F7 H4 Q _ S7.fh S7.pop.top S7.top q2 fun v dv F8 H5 q3 m => k _ _ _ _ q3 (m.stt S7.pop.pop)
theorem ptd_chain {a b e : Expr} {op op' : CmpOp} {r r' : R2} {rd rd' : RD2} {ta tb tc : TD} {pos : Pos} (ho : OpR X (compareOp op) r) (hd : Op2 X.K r rd) (ho' : OpR X (compareOp op') r') (hd' : Op2 X.K r' rd') (ha : PE X a (LE X.K c W ta)) (hb : PE X b (LE X.K c W tb)) (hc : PE X e (LE X.K c W tc)) (hm : lastMarks [op, op'] [b, e] = false) :
    PT X (.Compare a [op, op'] [b, e] pos) (LT X.K c W (tvD (chainD rd rd' ta tb tc))) :=
  PT_imp (pt_chain ho ho' ha hb hc (hm := hm)) fun σ H Q ⟨δ, tmp, Qd, Ed, S, q, k, w⟩ => lift_chain hd hd' σ H _ ⟨δ, tmp, _, Ed, S, q, fun v x δ' H' ⟨b, e, q'⟩ ⟨F, ow, S'⟩ => by
    subst e
    cases S'.top
    exact ⟨b, rfl, k _ _ _ q' ⟨F, ow, S'.pop⟩⟩, w⟩
/-! ### a, b = e -/
def unpackD (t : TD) (g : TDG) : TDS := fun D δ => t δ (fun x δ1 => g x.toD δ1 D.nx) D.ex
theorem psd_unpack {tg e : Expr} {t : TD} {g : TDG} {vs : List Nat} {pos : Pos} (he : PE X e (LE X.K c W t)) (hg : PG X tg (LG X.K c vs g)) (h : ∀ {te : TE} {g : TG}, PE X e te → PG X tg g → PS X (.Assign [tg] e pos) (tAsg te g)) : PS X (.Assign [tg] e pos) (LS X.K c W (unpackD t g)) :=
  PS_imp (h he hg) fun D σ H ⟨δ, tmp, Dd, S, q, k, kr, kb, kc, w⟩ => ⟨δ, tmp, _, _, S, q, fun v x δ' H' q' ⟨F, ow, S'⟩ => by
    obtain ⟨F2, S2, _⟩ := S'.top_frz
    exact ⟨δ', tmp, _, _, ⟨F2, ow, S2⟩, q', fun δ3 σ3 H3 q3 S3 _ => k _ _ _ q3 S3⟩, w⟩
/-! ### lists and tuples, whichever it is -/
/-! ### enumerate, zip: pairs -/
def enumL (xs : List D) : List D := xs.zipIdx.map fun p => .tup [.int (p.2 : Nat), p.1]
def zipL (xs ys : List D) : List D := (xs.zip ys).map fun p => .tup [p.1, p.2]
theorem serve_enum {K : PySem.W.Frag} {p : Addr} {src : D} {items : List D} (e : src = .lst items ∨ src = .ro items) : Serve K (Ite K p) (.ref p) src (enumL items) := by
  have sq : ∀ {F H : Hp}, Same F H → Rep K F (.ref p) src → ∃ vs, SqL K H p vs ∧ RepL K F vs items := fun {F H} s r => by
    rcases e with rfl | rfl
    · cases r with | lst s1 r1 => exact ⟨_, s.seq (SqL.of s1), r1⟩
    · cases r with | ro s1 r1 => exact ⟨_, s.seq s1, r1⟩
  have hl : (enumL items).length = items.length := by simp [enumL]
  refine ⟨fun i F H s r hi => ?_, fun i F H s r hi => ?_, fun i F H x H' s r y d hd => ?_⟩
  · obtain ⟨vs, h, rl⟩ := sq s r
    rw [hl] at hi
    obtain ⟨v, e, _⟩ := rl.get (List.getElem?_eq_getElem hi)
    exact ⟨vs, v, h, e⟩
  · obtain ⟨vs, h, rl⟩ := sq s r
    exact ⟨vs, h, by rw [rl.len, ← hl]; exact hi⟩
  · obtain ⟨vs, h, rl⟩ := sq s r
    obtain ⟨T, z, rfl, nT, rfl, y⟩ := y
    have hi : i < items.length := by rw [← hl]; exact set_lt hd
    obtain ⟨v, e, rv⟩ := rl.get (List.getElem?_eq_getElem hi)
    rw [y vs h] at e
    cases e
    have : d = .tup [.int (i : Nat), items[i]] := by
      unfold enumL at hd
      rw [List.getElem?_map, List.getElem?_zipIdx, List.getElem?_eq_getElem hi] at hd
      simpa using hd.symm
    subst this
    exact ⟨_, Ext.new s nT, .tup upd_same (.cons (.int _) (.cons (rv.mono (same_upd (Same.refl F) (s.free nT))) .nil))⟩
def enumI (ta : TDA) : TDI := fun δ Q E => ta δ (fun as δ1 => ∃ x xs, as = [.d x] ∧ (x = .lst xs ∨ x = .ro xs) ∧ Q (enumL xs) δ1) E
theorem pid_enum {e : Expr} {ta : TDA} {p pos tpos : Pos} {elts : List Expr} {kk : Nat} (hg : Gl X "enumerate") (hm : X.mg "enumerate" = none) (ha : PA X [e] (LA X.K c W ta)) (hs : starEach [e] X.env = [(false, eval e X.env)] := by rfl) : PI X (.Tuple elts kk tpos) (.Call (.Name "enumerate" p) [e] [] pos) (LI X.K c W (enumI ta)) :=
  PI_imp (pi_enum hg hm ha hs) fun σ H R ⟨δ, tmp, Qd, Ed, S, q, k, w⟩ => ⟨δ, tmp, _, _, S, q, fun vs as δ' F ow H' ⟨x, xs, e, hx, q'⟩ S' ra => by
    subst e
    cases ra with
    | d h t =>
      cases t
      have h0 := h
      rcases hx with rfl | rfl
      · cases h with | lst s1 r1 => exact ⟨_, _, rfl, S'.fh.seq (SqL.of s1), k _ _ _ _ _ _ q' (serve_enum (.inl rfl)) ⟨F, ow, S'.push h0⟩⟩
      · cases h with | ro s1 r1 => exact ⟨_, _, rfl, S'.fh.seq s1, k _ _ _ _ _ _ q' (serve_enum (.inr rfl)) ⟨F, ow, S'.push h0⟩⟩, w⟩
/-! ### slices -/
abbrev TDO := DSt → (Option Int → DSt → Prop) → XD → Prop
def LO (K : PySem.W.Frag) (c : Fc) (W : WX) (t : TDO) : TO := fun σ H Q => ∃ δ tmp Qd Ed, Stt K c δ tmp σ H ∧ t δ Qd Ed ∧ (∀ i δ' H', Qd i δ' → Stt K c δ' tmp σ H' → Q i H') ∧ WD K c W tmp Ed
theorem PO_imp {e : Option Expr} {t t' : TO} (h : PO X e t) (f : ∀ σ H Q, t' σ H Q → t σ H Q) : PO X e t' := ⟨fun pins s σ H Q I q => h.run pins s σ H Q I (f _ _ _ q)⟩
def noneO : TDO := fun δ Q _ => Q none δ
def someO (t : TD) : TDO := fun δ Q E => t δ (fun x δ1 => ∃ i, x.toD = .int i ∧ Q (some i) δ1) E
theorem pod_none : PO X none (LO X.K c W noneO) := PO_imp po_none fun σ H Q ⟨δ, tmp, Qd, Ed, S, q, k, w⟩ => k _ _ _ q S
theorem pod_some {e : Expr} {t : TD} (he : PE X e (LE X.K c W t)) : PO X (some e) (LO X.K c W (someO t)) := PO_imp (po_some he) fun σ H Q ⟨δ, tmp, Qd, Ed, S, q, k, w⟩ =>
  ⟨δ, tmp, _, Ed, S, q, fun v x δ' H' ⟨i, e, q'⟩ ⟨F, ow, S'⟩ => by
    obtain ⟨F2, S2, _⟩ := S'.top_frz
    rw [e] at S2
    cases S2.top
    exact ⟨i, rfl, k _ _ _ q' ⟨F2, ow, S2.pop⟩⟩, w⟩
abbrev RDS := D → Option Int → Option Int → (DV → Prop) → Prop
def SlD (K : PySem.W.Frag) (r : V → Option Int → Option Int → Hp → VK → Prop) (rd : RDS) : Prop := ∀ x a lo hi F H Q Qd, Same F H → Rep K F x a → rd a lo hi Qd → (∀ v dv F' H', Qd dv → Made K F H F' H' v dv → Q v H') → r x lo hi H Q
def sliceD (rd : RDS) (t : TD) (tl th : TDO) : TD := fun δ Q E => t δ (fun x δ1 => tl δ1 (fun l δ2 => th δ2 (fun h δ3 => rd x.toD l h fun z => Q z δ3) E) E) E
theorem pd_sliceR {e : Expr} {lo hi : Option Expr} {r : V → Option Int → Option Int → Hp → VK → Prop} {rd : RDS} {t : TD} {tl th : TDO} {p2 pos : Pos} (hr : SlR X r) (hd : SlD X.K r rd) (he : PE X e (LE X.K c W t)) (hl : PO X lo (LO X.K c W tl)) (hh : PO X hi (LO X.K c W th)) :
    PE X (.Subscript e (.Slice lo hi none p2) pos) (LE X.K c W (sliceD rd t tl th)) := PE_imp (pe_slice hr he hl hh) fun σ H Q ⟨δ, tmp, Qd, Ed, S, q, k, w⟩ =>
  ⟨δ, tmp, _, Ed, S, q, fun v x δ1 H1 q1 S1 => ⟨δ1, _, _, Ed, S1, q1, fun l δ2 H2 q2 S2 => ⟨δ2, _, _, Ed, S2, q2, fun h δ3 H3 q3 ⟨F, ow, S3⟩ => by
    obtain ⟨F2, S4, _⟩ := S3.top_frz
    exact hd v _ l h F2 H3 Q _ S4.fh S4.top q3 fun u dv F5 H5 q5 m => k _ _ _ _ q5 (m.stt S4.pop), w.push⟩, w.push⟩, w⟩
abbrev sliceL : RDS := fun a lo hi Q => ∃ xs, (a = .lst xs ∨ a = .ro xs) ∧ Q (.own (.lst (cutD xs lo hi)))
theorem sld_list {K : PySem.W.Frag} : SlD K (rSlL K) sliceL := fun x a lo hi F H Q Qd s r ⟨xs, e, q⟩ k => by
  rcases e with rfl | rfl
  · cases r with | lst s1 r1 => exact ⟨_, _, rfl, s.seq (SqL.of s1), fun p n => k _ _ _ _ q (made_list n s (r1.cut lo hi))⟩
  · cases r with | ro s1 r1 => exact ⟨_, _, rfl, s.seq s1, fun p n => k _ _ _ _ q (made_list n s (r1.cut lo hi))⟩
theorem pd_slice {e : Expr} {lo hi : Option Expr} {t : TD} {tl th : TDO} {p2 pos : Pos} (he : PE X e (LE X.K c W t)) (hl : PO X lo (LO X.K c W tl)) (hh : PO X hi (LO X.K c W th)) : PE X (.Subscript e (.Slice lo hi none p2) pos) (LE X.K c W (sliceD sliceL t tl th)) := pd_sliceR sl_list sld_list he hl hh
/-! ### dicts by tuples of ints and texts -/
end
end DL

set_option Elab.async false
set_option linter.all false
set_option maxRecDepth 100000
/-! readings step by step -/
namespace DR
open PySem PySem.Spec PyProof.Rows L2 DL
section
variable {δ : DSt} {Q : DK} {E : XD} {D : EndsD}
theorem seq {t u : TDS} (h : t { D with nx := u D } δ) : seqD t u D δ := h
theorem next (h : D.nx δ) : nextD D δ := h
theorem drop {t : TD} (h : t δ (fun _ δ1 => D.nx δ1) D.ex) : dropD t D δ := h
theorem ret {t : TD} (h : t δ D.rt D.ex) : retD t D δ := h
theorem set {i : Nat} {t : TD} (h : t δ (fun x δ1 => D.nx (δ1.set i (some (.d x.toD)))) D.ex) : setD i t D δ := h
theorem setO {i : Nat} {t : TD} (h : t δ (fun x δ1 => D.nx (δ1.set i (some x))) D.ex) : DL.setO i t D δ := h
theorem setLc {i : Nat} {o : Bool} {t : TD} (h : t δ (fun x δ1 => D.nx (δ1.set i (some (asD o x)))) D.ex) : setLcD i o t D δ := h
theorem par {i j : Nat} {oi oj : Bool} {t : TDK} (h : t δ (fun xs δ1 => ∃ x y, xs = [x, y] ∧ D.nx ((δ1.set j (some (asD oj y))).set i (some (asD oi x)))) D.ex) : parD i j oi oj t D δ := h
theorem unpack {t : TD} {g : TDG} (h : t δ (fun x δ1 => g x.toD δ1 D.nx) D.ex) : unpackD t g D δ := h
theorem nilk {Q : List DV → DSt → Prop} (h : Q [] δ) : nilK δ Q E := h
theorem consk {t : TD} {r : TDK} {Q : List DV → DSt → Prop} (h : t δ (fun x δ1 => r δ1 (fun xs δ2 => Q (x :: xs) δ2) E) E) : consK t r δ Q E := h
theorem if_ {c : TDT} {t u : TDS} (h : c δ (fun b δ1 => if b = true then t D δ1 else u D δ1) D.ex) : ifD c t u D δ := h
theorem ifE {c : TDT} {t u : TD} (h : c δ (fun b δ1 => if b = true then t δ1 Q E else u δ1 Q E) E) : ifExpD c t u δ Q E := h
theorem not {t : TDT} {Q : Bool → DSt → Prop} (h : t δ (fun b δ1 => Q (!b) δ1) E) : notD t δ Q E := h
theorem and {t u : TDT} {Q : Bool → DSt → Prop} (h : t δ (fun b δ1 => if b = true then u δ1 Q E else Q false δ1) E) : andD t u δ Q E := h
theorem or {t u : TDT} {Q : Bool → DSt → Prop} (h : t δ (fun b δ1 => if b = true then Q true δ1 else u δ1 Q E) E) : orD t u δ Q E := h
theorem tv {t : TD} {Q : Bool → DSt → Prop} (h : t δ (fun x δ1 => ∃ b, x = .d (.bl b) ∧ Q b δ1) E) : tvD t δ Q E := h
theorem notv {t : TD} (h : t δ (fun x δ1 => ∃ b, x = .d (.bl b) ∧ Q (.d (.bl (!b))) δ1) E) : notV t δ Q E := h
theorem andv {t u : TD} (h : t δ (fun x δ1 => ∃ b, x = .d (.bl b) ∧ if b = true then u δ1 Q E else Q (.d (.bl false)) δ1) E) : andV t u δ Q E := h
theorem const {d : DL.D} (h : Q (.d d) δ) : constD d δ Q E := h
theorem var {i : Nat} {x : DL.D} (e : δ[i]? = some (some (.d x))) (h : Q (.d x) δ) : varD i δ Q E := ⟨x, e, h⟩
theorem fvar {i : Nat} {x : DV} (e : δ[i]? = some (some x)) (h : Q (.d x.toD) (δ.set i (some (.d x.toD)))) : fvarD i δ Q E := ⟨x, e, h⟩
theorem mvar {i : Nat} {x : DV} (e : δ[i]? = some (some x)) (h : Q x (δ.set i none)) : mvarD i δ Q E := ⟨x, e, h⟩
theorem op {rd : RD2} {ta tb : TD} (h : ta δ (fun x δ1 => tb δ1 (fun y δ2 => rd x.toD y.toD fun z => Q z δ2) E) E) : opD rd ta tb δ Q E := h
theorem chain {rd rd' : RD2} {ta tb tc : TD} (h : ta δ (fun x δ1 => tb δ1 (fun y δ2 => rd x.toD y.toD fun z => ∃ k, z = .d (.bl k) ∧ if k = true then tc δ2 (fun w δ3 => rd' y.toD w.toD fun z' => Q z' δ3) E else Q (.d (.bl false)) δ2) E) E) : chainD rd rd' ta tb tc δ Q E := h
theorem neg {t : TD} (h : t δ (fun x δ1 => ∃ i, x.toD = .int i ∧ Q (.d (.int (-i))) δ1) E) : negD t δ Q E := h
theorem nil {Q : List AV → DSt → Prop} (h : Q [] δ) : nilD δ Q E := h
theorem cons {t : TD} {r : TDA} {Q : List AV → DSt → Prop} (h : t δ (fun x δ1 => r δ1 (fun as δ2 => Q (.d x.toD :: as) δ2) E) E) : consD t r δ Q E := h
theorem consO {i : Nat} {r : TDA} {Q : List AV → DSt → Prop} (h : r δ (fun as δ2 => Q (.o i :: as) δ2) E) : DL.consO i r δ Q E := h
theorem call {sd : SpD} {ta : TDA} (h : ta δ (fun as δ1 => ∃ xs, argsOf δ1 as xs ∧ (slotsOf as).Nodup ∧ sd xs (fun r os => Q r (putBack δ1 (slotsOf as) os)) (fun x os => E x (putBack δ1 (slotsOf as) os))) E) : callD sd ta δ Q E := h
theorem built {rd : RDN} {ta : TDA} (h : ta δ (fun as δ1 => ∃ ds, as = ds.map .d ∧ rd ds fun z => Q z δ1) E) : builtD rd ta δ Q E := h
theorem builtO {i : Nat} {rd : RDNs} {xs : List DL.D} (e : δ[i]? = some (some (.own (.lst xs)))) (h : rd [.lst xs] fun z => NoStr z ∧ Q (.d z) δ) : DL.builtO i rd δ Q E := ⟨xs, e, h⟩
theorem tup {ta : TDA} (h : ta δ (fun as δ1 => ∃ ds, as = ds.map .d ∧ ds.length ≤ sizeLine ∧ Q (.d (.tup ds)) δ1) E) : tupD ta δ Q E := h
theorem lst {ta : TDA} (h : ta δ (fun as δ1 => ∃ ds, as = ds.map .d ∧ ds.length ≤ sizeLine ∧ Q (.own (.lst ds)) δ1) E) : lstD ta δ Q E := h
theorem ixo {i : Nat} {t : TD} {o : OC} (e : δ[i]? = some (some (.own o))) (h : t δ (fun k δ1 => ∃ xs j d, δ1[i]? = some (some (.own (.lst xs))) ∧ k.toD = .int j ∧ atI xs j = some d ∧ Q (.d d) δ1) E) : ixO i t δ Q E := ⟨o, e, h⟩
theorem setItem {j : Nat} {ti te : TD} {o : OC} (e : δ[j]? = some (some (.own o))) (h : te δ (fun y δ1 => ti δ1 (fun k δ2 => ∃ xs n m, δ2[j]? = some (some (.own (.lst xs))) ∧ k.toD = .int n ∧ ixN xs.length n = some m ∧ D.nx (δ2.set j (some (.own (.lst (xs.set m y.toD)))))) D.ex) D.ex) : DL.setItem j ti te D δ := ⟨o, e, h⟩
theorem meth {j : Nat} {rd : RDM} {ta : TDA} {x0 : List DL.D} (e : δ[j]? = some (some (.own (.lst x0)))) (h : ta δ (fun as δ1 => ∃ ds xs, as = ds.map .d ∧ δ1[j]? = some (some (.own (.lst xs))) ∧ rd xs ds fun z zs => Q (.d z) (δ1.set j (some (.own (.lst zs))))) E) : methO j rd ta δ Q E := ⟨x0, e, h⟩
theorem fld {C : Addr} {f : Str} {t : TD} (h : t δ (fun o δ1 => ∃ fs d, o.toD = .obj C fs ∧ fs.lookup f = some d ∧ Q (.d d) δ1) E) : fldD C f t δ Q E := h
theorem fldo {C : Addr} {i : Nat} {f : Str} {fs : List (Str × DL.D)} {d : DL.D} (e : δ[i]? = some (some (.own (.ins C fs)))) (l : fs.lookup f = some d) (h : Q (.d d) δ) : fldO C i f δ Q E := ⟨fs, d, e, l, h⟩
theorem fldset {C : Addr} {i : Nat} {f : Str} {t : TD} (h : t δ (fun y δ1 => ∃ fs, δ1[i]? = some (some (.own (.ins C fs))) ∧ fs.length < 1000 ∧ D.nx (δ1.set i (some (.own (.ins C (putD f y.toD fs)))))) D.ex) : fldSet C i f t D δ := h
theorem make {C : Addr} {sd : SpD} {ta : TDA} (h : ta δ (fun as δ1 => ∃ xs, argsOf δ1 as xs ∧ (slotsOf as).Nodup ∧ sd (.own (.ins C []) :: xs)
  (fun r os => r = .d .non ∧ ∃ fs os', os = .ins C fs :: os' ∧ Q (.d (.obj C fs)) (putBack δ1 (slotsOf as) os')) (fun x os => ∃ o os', os = o :: os' ∧ E x (putBack δ1 (slotsOf as) os'))) E) : makeD C sd ta δ Q E := h
theorem methd {C : Addr} {m : Str} {sd : SpD} {to : TD} {ta : TDA} (h : to δ (fun o δ1 => ∃ fs, o.toD = .obj C fs ∧ fs.lookup m = none ∧ ta δ1 (fun as δ2 => ∃ xs, argsOf δ2 as xs ∧ (slotsOf as).Nodup ∧
  sd (.d (.obj C fs) :: xs) (fun r os => Q r (putBack δ2 (slotsOf as) os)) (fun x os => E x (putBack δ2 (slotsOf as) os))) E) E) : methD C m sd to ta δ Q E := h
theorem for_ {ti : TDI} {g : TDG} {tb : TDS} (h : ti δ (fun xs δ1 => forD g tb D xs δ1) D.ex) : forS ti g tb D δ := h
theorem comp {ti : TDI} {g : TDG} {tt : TDT} {te : TD} {vs : List Nat} (h : ti δ (fun xs δ1 => lcD g tt te vs xs [] (wipeD δ1 vs) fun acc δ2 => Q (.own (.lst acc)) δ2) E) : compD ti g tt te vs δ Q E := h
theorem yes {Q : Bool → DSt → Prop} (h : Q true δ) : yesD δ Q E := h
theorem nameg {i : Nat} {x : DL.D} {Q : DSt → Prop} (h : Q (δ.set i (some (.d x)))) : nameG i x δ Q := h
theorem tupg {is : List Nat} {xs : List DL.D} {Q : DSt → Prop} (h : namesG is xs δ Q) : tupG is (.tup xs) δ Q := ⟨xs, rfl, h⟩
theorem namesC {i : Nat} {is : List Nat} {x : DL.D} {xs : List DL.D} {Q : DSt → Prop} (h : namesG is xs (δ.set i (some (.d x))) Q) : namesG (i :: is) (x :: xs) δ Q := h
theorem namesN {Q : DSt → Prop} (h : Q δ) : namesG [] [] δ Q := h
theorem listi {t : TD} {Q : List DL.D → DSt → Prop} (h : t δ (fun x δ1 => ∃ xs, (x.toD = .lst xs ∨ x.toD = .ro xs) ∧ Q xs δ1) E) : listI t δ Q E := h
theorem tupi {t : TD} {Q : List DL.D → DSt → Prop} (h : t δ (fun x δ1 => ∃ xs, x.toD = .tup xs ∧ Q xs δ1) E) : tupI t δ Q E := h
theorem stri {t : TD} {Q : List DL.D → DSt → Prop} (h : t δ (fun x δ1 => ∃ z, x.toD = .str z ∧ Q (z.cps.toList.map fun ch => .str ⟨#[ch]⟩) δ1) E) : strI t δ Q E := h
theorem range1 {ta : TDA} {Q : List DL.D → DSt → Prop} (h : ta δ (fun as δ1 => ∃ j, as = [.d (.int j)] ∧ -(2 ^ 62) ≤ j ∧ j < 2 ^ 62 ∧ Q (upto 0 j.toNat) δ1) E) : range1I ta δ Q E := h
theorem iteT {A B : Prop} (h : A) : if true = true then A else B := h
theorem iteF {A B : Prop} (h : B) : if false = true then A else B := h
theorem nit {A B : Prop} (h : B) : if (!true) = true then A else B := h
theorem nif {A B : Prop} (h : A) : if (!false) = true then A else B := h
/-- an open test -/
theorem split {p : Prop} [Decidable p] {A B : Prop} (h1 : p → A) (h2 : ¬ p → B) : if decide p = true then A else B := by
  by_cases h : p
  · rw [if_pos (decide_eq_true h)]; exact h1 h
  · rw [if_neg (by rw [decide_eq_false h]; exact Bool.false_ne_true)]; exact h2 h
theorem splitN {p : Prop} [Decidable p] {A B : Prop} (h1 : p → B) (h2 : ¬ p → A) : if (!decide p) = true then A else B := by
  by_cases h : p
  · rw [if_neg (by rw [decide_eq_true h]; exact Bool.false_ne_true)]; exact h1 h
  · rw [if_pos (by rw [decide_eq_false h]; rfl)]; exact h2 h
end
theorem args_n {δ : DSt} : argsOf δ [] [] := rfl
theorem args_d {δ : DSt} {x : DL.D} {r : List AV} {t : List DV} (h : argsOf δ r t) : argsOf δ (.d x :: r) (.d x :: t) := ⟨t, rfl, h⟩
theorem args_o {δ : DSt} {i : Nat} {o : OC} {r : List AV} {t : List DV} (e : δ[i]? = some (some (.own o))) (h : argsOf δ r t) : argsOf δ (.o i :: r) (.own o :: t) := ⟨o, t, e, rfl, h⟩
theorem nost_i {i : Int} : NoStr (.int i) := fun _ e => nomatch e
theorem nost_b {b : Bool} : NoStr (.bl b) := fun _ e => nomatch e
theorem start {t : TDS} {D : EndsD} {δ δ' : DSt} (e : δ = δ') (h : t D δ') : t D δ := by rw [e]; exact h
theorem tk_n {δ : DSt} : takeB δ [] [] := rfl
theorem tk_c {δ : DSt} {i : Nat} {is : List Nat} {o : OC} {os : List OC} (e : δ[i]? = some (some (.own o))) (h : takeB δ is os) : takeB δ (i :: is) (o :: os) := ⟨o, os, rfl, e, h⟩
theorem rt {sl : List Nat} {Qd : DV → List OC → Prop} {Ed : Ex → List OC → Prop} {x : DV} {δ : DSt} {os : List OC} (t : takeB δ sl os) (q : Qd x os) : (endsD sl Qd Ed).rt x δ := ⟨os, t, q⟩
theorem nx {sl : List Nat} {Qd : DV → List OC → Prop} {Ed : Ex → List OC → Prop} {δ : DSt} {os : List OC} (t : takeB δ sl os) (q : Qd (.d .non) os) : (endsD sl Qd Ed).nx δ := ⟨os, t, q⟩
theorem ex {sl : List Nat} {Qd : DV → List OC → Prop} {Ed : Ex → List OC → Prop} {x : Ex} {δ : DSt} {os : List OC} (t : takeB δ sl os) (q : Ed x os) : (endsD sl Qd Ed).ex x δ := ⟨os, t, q⟩
end DR
namespace DL
open PySem PySem.Spec PyProof.Rows L2
/-- a def as its callers know it -/
structure DefD (P : Program) (w : World) (K : PySem.W.Frag) (mg : Str → Option Value) (base : Heap) (x : Str) (k : Nat) (ps : List Str) (sd : SpD) where
  f : Addr
  fd : FuncData
  ok : FnOk P w K mg base (L2.CX P w) k f fd ps (spOf K sd)
  mg : mg x = some (.ref f)
  kp : PySem.W.keepIn K (.ref f) = true
  b : Binds K fd ps []
end DL

set_option Elab.async false
set_option linter.all false
set_option maxRecDepth 100000
namespace DL
open PySem PySem.Spec PyProof.Rows L2
/-! ### dicts by tuples -/
section
variable {K : PySem.W.Frag} {F H : Hp}
end
section
variable {X : Cx} {c : Fc} {W : WX}
/-! ### a property that raises nothing -/
def propD (C : Addr) (sd : SpD) (to : TD) : TD := fun δ Q E => to δ (fun o δ1 => ∃ fs, o.toD = .obj C fs ∧ sd [.d (.obj C fs)] (fun r os => Q r δ1) (fun _ _ => False)) E
theorem pd_prop {e : Expr} {C p f0 : Addr} {f : Str} {k : Nat} {fd : FuncData} {ps : List Str} {sd : SpD} {to : TD} {pos : Pos} (he : PE X e (LE X.K c W to)) (cl : Cls X.K C) (hp : PropOf X.K C f p f0) (G : FnOk X.prog X.w X.K X.mg X.base (L2.CX X.prog X.w) k f0 fd ps (spOf X.K sd)) (hr : Room (k + 1) X.A) (hb : Binds X.K fd ps [])
    (hab : attributeBase e f X.env (eval e X.env) = eval e X.env) : PE X (.Attribute e f pos) (LE X.K c W (propD C sd to)) :=
  PE_imp (pe_prop he cl hp G hr hb .nil (passL (X := X.nox)) hab) fun σ H Q ⟨δ, tmp, Qd, Ed, S, q, k, w⟩ => ⟨δ, tmp, _, Ed, S, q, fun v o δ1 H1 ⟨fs, eo, q1⟩ ⟨F, ow, S1⟩ => by
    obtain ⟨F2, S2, _⟩ := S1.top_frz
    rw [eo] at S2
    have r0 := S2.top
    cases r0 with
    | @obj a _ dx vs _ s h =>
      exact ⟨a, dx, vs, rfl, S2.fh _ _ s, F2, _, [], _, _, S2.fh, .d S2.top .nil, q1, fun v r os F' H' q P rr => k v r _ H' q (ret_push (is := []) S2.pop rfl (fun k i p e => by simp at e) List.nodup_nil P rr), fun _ _ _ _ _ _ z _ _ => z.elim⟩, w⟩
end
end DL

set_option Elab.async false
set_option linter.all false
set_option maxRecDepth 100000
/-! loops by what stays true -/
namespace DR
open PySem PySem.Spec PyProof.Rows L2 DL
theorem cut {t u : TDS} {D : EndsD} {δ : DSt} (I : DSt → Prop) (h1 : ∀ N : DSt → Prop, (∀ δ, I δ → N δ) → t { D with nx := N } δ) (h2 : ∀ δ, I δ → u D δ) : seqD t u D δ := h1 _ h2
theorem icut {ti : TDI} {E : XD} {δ : DSt} {Q : List DL.D → DSt → Prop} (I : List DL.D → DSt → Prop) (h1 : ∀ N : List DL.D → DSt → Prop, (∀ xs δ, I xs δ → N xs δ) → ti δ N E) (h2 : ∀ xs δ, I xs δ → Q xs δ) : ti δ Q E := h1 _ h2
theorem bcut {t : TDT} {E : XD} {δ : DSt} {Q : Bool → DSt → Prop} (I : Bool → DSt → Prop) (h1 : ∀ N : Bool → DSt → Prop, (∀ x δ, I x δ → N x δ) → t δ N E) (h2 : ∀ x δ, I x δ → Q x δ) : t δ Q E := h1 _ h2
theorem for_inv {g : TDG} {tb : TDS} {D : EndsD} {xs : List DL.D} {δ : DSt} (I : Nat → DSt → Prop) (h0 : I 0 δ)
    (hs : ∀ i x δ (N : DSt → Prop), xs[i]? = some x → I i δ → (∀ δ', I (i + 1) δ' → N δ') → g x δ (fun δ1 => tb { D with nx := N, ct := N, bk := D.nx } δ1))
    (hn : ∀ δ, I xs.length δ → D.nx δ) : forD g tb D xs δ := by
  have go : ∀ (m i : Nat) δ, i + m = xs.length → I i δ → forD g tb D (xs.drop i) δ := fun m => by
    induction m with
    | zero =>
      intro i δ e h
      have e : i = xs.length := e
      subst e
      rw [List.drop_length]
      exact hn δ h
    | succ m ih =>
      intro i δ e h
      have hl : i < xs.length := by omega
      rw [List.drop_eq_getElem_cons hl]
      exact hs i _ δ _ (List.getElem?_eq_getElem hl) h fun δ' h' => ih (i + 1) δ' (by omega) h'
  exact go xs.length 0 δ (Nat.zero_add _) h0
theorem lc_inv {g : TDG} {tt : TDT} {te : TD} {vs : List Nat} {xs : List DL.D} {δ : DSt} {Q : List DL.D → DSt → Prop} (J : Nat → List DL.D → DSt → Prop) (h0 : J 0 [] δ)
    (hs : ∀ i x acc δ (N : List DL.D → DSt → Prop), xs[i]? = some x → J i acc δ → (∀ acc' δ', J (i + 1) acc' δ' → N acc' δ') →
      g x δ (fun δ1 => tt δ1 (fun b δ2 => if b = true then te δ2 (fun y δ3 => acc.length < sizeLine ∧ N (acc ++ [y.toD]) (wipeD δ3 vs)) noX else N acc (wipeD δ2 vs)) noX))
    (hn : ∀ acc δ, J xs.length acc δ → Q acc δ) : lcD g tt te vs xs [] δ Q := by
  have go : ∀ (m i : Nat) acc δ, i + m = xs.length → J i acc δ → lcD g tt te vs (xs.drop i) acc δ Q := fun m => by
    induction m with
    | zero =>
      intro i acc δ e h
      have e : i = xs.length := e
      subst e
      rw [List.drop_length]
      exact hn acc δ h
    | succ m ih =>
      intro i acc δ e h
      have hl : i < xs.length := by omega
      rw [List.drop_eq_getElem_cons hl]
      exact hs i _ acc δ (fun a d => lcD g tt te vs (xs.drop (i + 1)) a d Q) (List.getElem?_eq_getElem hl) h fun acc' δ' h' => ih (i + 1) acc' δ' (by omega) h'
  exact go xs.length 0 [] δ (Nat.zero_add _) h0
end DR

set_option Elab.async false
set_option linter.all false
set_option maxRecDepth 100000
namespace DR
open PySem PySem.Spec PyProof.Rows L2 DL
theorem map_at {α β : Type} {f : α → β} {l : List α} {i : Nat} {y : β} (h : (l.map f)[i]? = some y) : ∃ x, l[i]? = some x ∧ y = f x := by
  rw [List.getElem?_map] at h
  cases q : l[i]? with
  | none => rw [q] at h; cases h
  | some x => rw [q] at h; cases h; exact ⟨x, rfl, rfl⟩
theorem at_lt {α : Type} {l : List α} {i : Nat} {x : α} (h : l[i]? = some x) : i < l.length := by
  rcases Nat.lt_or_ge i l.length with h1 | h1
  · exact h1
  · rw [List.getElem?_eq_none h1] at h; cases h
/-- the items stand for others -/
theorem lc_filterM {α : Type} {g : TDG} {tt : TDT} {te : TD} {vs : List Nat} {l : List α} {r : α → DL.D} {δ : DSt} {Q : List DL.D → DSt → Prop} (f : α → Option DL.D)
    (hs : ∀ x (acc : List DL.D) (N : List DL.D → DSt → Prop), x ∈ l → acc.length < l.length → N (acc ++ (f x).toList) δ →
      g (r x) δ (fun δ1 => tt δ1 (fun b δ2 => if b = true then te δ2 (fun y δ3 => acc.length < sizeLine ∧ N (acc ++ [y.toD]) (wipeD δ3 vs)) noX else N acc (wipeD δ2 vs)) noX))
    (hn : Q (l.filterMap f) δ) : lcD g tt te vs (l.map r) [] δ Q := by
  refine lc_inv (fun i acc δ' => δ' = δ ∧ acc = (l.take i).filterMap f) ⟨rfl, by rw [List.take_zero]; rfl⟩ (fun i x acc δ' N hx ⟨e1, e2⟩ k => ?_) fun acc δ' ⟨e1, e2⟩ => by subst e1; rw [e2, List.length_map, List.take_length]; exact hn
  subst e1
  obtain ⟨x, hy, rfl⟩ := map_at hx
  have hl := at_lt hy
  have hle : acc.length ≤ i := by
    rw [e2]
    exact Nat.le_trans (List.length_filterMap_le ..) (by rw [List.length_take]; exact Nat.min_le_left ..)
  refine hs x acc N (List.mem_of_getElem? hy) (by omega) (k _ _ ⟨rfl, ?_⟩)
  rw [List.take_succ, hy, List.filterMap_append, ← e2]
  show _ = acc ++ [x].filterMap f
  cases e : f x <;> simp [e]
theorem lc_mapM {α : Type} {g : TDG} {tt : TDT} {te : TD} {vs : List Nat} {l : List α} {r : α → DL.D} {δ : DSt} {Q : List DL.D → DSt → Prop} (f : α → DL.D)
    (hs : ∀ x (acc : List DL.D) (N : List DL.D → DSt → Prop), x ∈ l → acc.length < l.length → N (acc ++ [f x]) δ →
      g (r x) δ (fun δ1 => tt δ1 (fun b δ2 => if b = true then te δ2 (fun y δ3 => acc.length < sizeLine ∧ N (acc ++ [y.toD]) (wipeD δ3 vs)) noX else N acc (wipeD δ2 vs)) noX))
    (hn : Q (l.map f) δ) : lcD g tt te vs (l.map r) [] δ Q :=
  lc_filterM (fun x => some (f x)) (fun x acc N hx hl n => hs x acc N hx hl n) (by rw [List.filterMap_eq_map']; exact hn)
end DR
namespace DR
open PySem PySem.Spec PyProof.Rows L2 DL
section
variable {δ : DSt} {Q : DK} {E : XD} {D : EndsD}
theorem prop {C : Addr} {sd : SpD} {to : TD} (h : to δ (fun o δ1 => ∃ fs, o.toD = .obj C fs ∧ sd [.d (.obj C fs)] (fun r os => Q r δ1) (fun _ _ => False)) E) : propD C sd to δ Q E := h
end
end DR
/-! own objects lent to a def that doesn't change them, for an answer without addresses -/
namespace DL
open PySem PySem.Spec PyProof.Rows L2
def Pln : D → Prop
  | .non => True
  | .bl _ => True
  | .int _ => True
  | .str _ => True
  | .ty _ => True
  | .adr _ => True
  | _ => False
section
variable {K : PySem.W.Frag} {F F' F'' H H' : Hp}
theorem Pln.rep {v : V} {d : D} (p : Pln d) (r : Rep K F v d) : Rep K F' v d := by
  cases r with
  | non => exact .non
  | bl b => exact .bl b
  | int i => exact .int i
  | str k => exact .str k
  | ty n => exact .ty n
  | adr a => exact .adr a
  | _ => exact p.elim
end
end DL

set_option Elab.async false
set_option linter.all false
set_option maxRecDepth 100000
namespace DL
open PySem PySem.Spec PyProof.Rows L2
section
variable {X : Cx} {c : Fc} {W : WX}
/-! ### a list or a tuple -/
def seqO (t : TD) : TDI := fun δ Q E => listI t δ Q E ∨ tupI t δ Q E
theorem pid_seq {tg e : Expr} {t : TD} (he : PE X e (LE X.K c W t)) : PI X tg e (LI X.K c W (seqO t)) :=
  ⟨fun pins s σ H R I ⟨δ, tmp, Qd, Ed, S, q, k, w⟩ => q.elim (fun q => (pid_list he).run pins s σ H R I ⟨δ, tmp, Qd, Ed, S, q, k, w⟩) fun q => (pid_tup he).run pins s σ H R I ⟨δ, tmp, Qd, Ed, S, q, k, w⟩⟩
/-! ### zip -/
end
end DL
namespace DR
open PySem PySem.Spec PyProof.Rows L2 DL
section
variable {δ : DSt} {E : XD} {Q : List DL.D → DSt → Prop}
theorem seqL {t : TD} (h : listI t δ Q E) : seqO t δ Q E := .inl h
theorem seqT {t : TD} (h : tupI t δ Q E) : seqO t δ Q E := .inr h
end
end DR

set_option Elab.async false
set_option linter.all false
set_option maxRecDepth 100000
namespace DL
open PySem PySem.Spec PyProof.Rows L2
section
variable {K : PySem.W.Frag} {F : Hp}
end
end DL

set_option Elab.async false
set_option linter.all false
set_option maxRecDepth 100000
namespace DL
open PySem PySem.Spec PyProof.Rows L2
section
variable {X : Cx} {c : Fc} {W : WX}
end
end DL
namespace DR
open PySem PySem.Spec PyProof.Rows L2 DL
end DR

set_option Elab.async false
set_option linter.all false
set_option maxRecDepth 100000
namespace DL
open PySem PySem.Spec PyProof.Rows L2
section
variable {K : PySem.W.Frag} {c : Fc} {W : WX} {F H : Hp} {ow : Addr → Option Hold} {δ : DSt} {tmp : List (V × DV)} {σ : L2.St} {p : Addr} {o : OC} {v : V} {d : D}
end
section
variable {X : Cx} {c : Fc} {W : WX}
end
end DL
namespace DR
open PySem PySem.Spec PyProof.Rows L2 DL
end DR

set_option Elab.async false
set_option linter.all false
set_option maxRecDepth 100000
namespace DL
open PySem PySem.Spec PyProof.Rows L2
theorem units65 {k : Nat} {A : Around} (r : Room k A) : A.units + 65 < cLine := by have := r.un; omega
section
variable {X : Cx} {c : Fc} {W : WX}
/-- x in xs, xs the own list in slot j: items of any depth -/
def inLO (j : Nat) (n : Bool) (ti : TD) : TD := fun δ Q E => ti δ (fun x δ1 => ∃ xs, δ1[j]? = some (some (.own (.lst xs))) ∧ Cmp x.toD ∧ Cmp (.lst xs) ∧ Q (.d (.bl (n != ((pyL xs).any fun z => PyData.eqv z x.toD.py)))) δ1) E
theorem inLO_run {K : PySem.W.Frag} {j : Nat} {n : Bool} {ti : TD} {r : R2} (hr : ∀ x y H Q d ds, Dp K H x d → Dp K H y (.list ds) → SeqAt.shaped d = true → SeqAt.shaped (.list ds) = true → Q (V.bl (n != (ds.any fun z => PyData.eqv z d))) H → r x y H Q) : ∀ σ H Q, LE K c W (inLO j n ti) σ H Q → tOp r (LE K c W ti) (tVar j) σ H Q :=
  fun σ H Q ⟨δ, tmp, Qd, Ed, S, q, k, w⟩ => ⟨δ, tmp, _, Ed, S, q, fun u y δ1 H1 ⟨xs, ej, cx, cl, q1⟩ ⟨F1, ow1, S1⟩ => by
    obtain ⟨F2, S2, _⟩ := S1.top_frz
    obtain ⟨v', e2, p', rfl, _, _, _, vs, ep, rl⟩ := S2.sl _ _ ej
    have hl : isPyL xs = true := cl.1
    have lay : SeqAt.shaped (D.py (.lst xs)) = true := by
      unfold SeqAt.shaped
      rw [decide_eq_true cl.2]
      have := rl.lay hl
      simp only [D.py, PyData.canLay0]
      rw [this]
      rfl
    exact ⟨_, e2, hr u (.ref p') H1 Q y.toD.py (pyL xs) (dp_mono S2.fh (S2.top.dp cx.1)) (.lst (SqL.of ep) (dpAll_mono S2.fh (rl.dp hl))) (S2.top.shp cx) lay (k _ _ _ _ q1 ⟨F2, ow1, S2.pop.push (.bl _)⟩)⟩, w⟩
theorem ptd_inLO_t {j : Nat} {x : Str} {i : Expr} {ti : TD} {pos px : Pos} (hu : X.A.units + 65 < cLine) (hi : PE X i (LE X.K c W ti)) (hv : PE X (.Name x px) (tVar j)) : PT X (.Compare i [.In] [.Name x px] pos) (LT X.K c W (tvD (inLO j false ti))) :=
  PT_imp (pt_cmpR (op_inD hu) hi hv rfl) fun σ H Q ⟨δ, tmp, Qd, Ed, S, q, k, w⟩ => inLO_run (j := j) (n := false) (ti := ti) (fun x y H Q d ds h1 h2 h3 h4 h5 => ⟨d, ds, h1, h2, h3, h4, by rw [Bool.false_bne] at h5; exact h5⟩) σ H _ ⟨δ, tmp, (fun x δ1 => ∃ b, x = .d (.bl b) ∧ Qd b δ1), Ed, S, q, fun v x δ' H' ⟨b, e, q'⟩ ⟨F, ow, S'⟩ => by
    subst e
    cases S'.top
    exact ⟨b, rfl, k _ _ _ q' ⟨F, ow, S'.pop⟩⟩, w⟩
end
end DL
namespace DR
open PySem PySem.Spec PyProof.Rows L2 DL
theorem inLO {δ : DSt} {Q : DK} {E : XD} {j : Nat} {n : Bool} {ti : TD} (h : ti δ (fun x δ1 => ∃ xs, δ1[j]? = some (some (.own (.lst xs))) ∧ Cmp x.toD ∧ Cmp (.lst xs) ∧ Q (.d (.bl (n != ((pyL xs).any fun z => PyData.eqv z x.toD.py)))) δ1) E) : DL.inLO j n ti δ Q E := h
theorem enumi {δ : DSt} {E : XD} {Q : List DL.D → DSt → Prop} {ta : TDA} (h : ta δ (fun as δ1 => ∃ x xs, as = [.d x] ∧ (x = .lst xs ∨ x = .ro xs) ∧ Q (enumL xs) δ1) E) : enumI ta δ Q E := h
theorem enum_at {xs : List DL.D} {i : Nat} {d : DL.D} (h : (enumL xs)[i]? = some d) : ∃ x, xs[i]? = some x ∧ d = .tup [.int (i : Nat), x] := by
  unfold enumL at h
  rw [List.getElem?_map, List.getElem?_zipIdx] at h
  cases q : xs[i]? with
  | none => rw [q] at h; cases h
  | some x =>
    rw [q] at h
    refine ⟨x, rfl, ?_⟩
    simpa using h.symm
theorem enum_len {xs : List DL.D} : (enumL xs).length = xs.length := by simp [enumL]
end DR

set_option Elab.async false
set_option linter.all false
set_option maxRecDepth 100000
/-! several except clauses, each with a name -/
namespace DL
open PySem PySem.Spec PyProof.Rows L2
section
variable {X : Cx} {bd : List Stmt} {g : ExceptHandler} {gs : List ExceptHandler} {qs : List Clause} {pos : Pos} {tb : WX → TS} {out : WX}
end
/-! in data -/
end DL
namespace DR
open PySem PySem.Spec PyProof.Rows L2 DL
end DR

set_option Elab.async false
set_option linter.all false
set_option maxRecDepth 100000
/-! operators, subscripts and comparisons by own defs -/
namespace DL
open PySem PySem.Spec PyProof.Rows L2
section
variable {X : Cx} {k : Nat} {f C : Addr} {fd : FuncData} {ps : List Str} {sp : Sp} {E : L2.St → XK} {a b : Expr} {ta tb : TE} {pos : Pos} {r : L2.St → R2}
end
section
variable {K : PySem.W.Frag} {c : Fc} {W : WX} {F H : Hp} {ow : Addr → Option Hold} {δ : DSt} {tmp : List (V × DV)} {σ : L2.St} {Q : VK} {Qd : DK} {Ed : XD} {sd : SpD}
end
section
variable {X : Cx} {c : Fc} {W : WX} {k : Nat} {f C : Addr} {fd : FuncData} {ps : List Str} {sd : SpD} {a b : Expr} {ta tb : TD} {pos : Pos}
end
end DL
namespace DR
open PySem PySem.Spec PyProof.Rows L2 DL
end DR

set_option Elab.async false
set_option linter.all false
set_option maxRecDepth 100000
/-! == and != by an own def; classes called with keywords; defs with a star; classmethods -/
namespace DL
open PySem PySem.Spec PyProof.Rows L2
/-! ### == -/
section
variable {X : Cx} {k : Nat} {f C : Addr} {fd : FuncData} {ps : List Str} {sp : Sp}
end
/-! ### != -/
/-- the class's own dict has __eq__ and no __ne__ -/
structure NeOf (K : PySem.W.Frag) (C f : Addr) : Prop where
  cls : ∃ nm q N bs hdct sn sub ab col dd k0 k1 k2 k3 k5 newId, K.lookup C = some (excClassObj nm q C N bs [.type "object"] hdct sn sub ab col dd k0 k1 k2 k3 k5 newId) ∧ PySem.W.nsOkIn K N = true ∧ PySem.W.nsIn K N "__eq__" = some (some (.ref f)) ∧ PySem.W.nsIn K N "__ne__" = some none
  fn : ∃ of, K.lookup f = some of ∧ of.cls = .type "function"
section
variable {X : Cx} {k : Nat} {f C : Addr} {fd : FuncData} {ps : List Str} {sp : Sp}
end
section
variable {K : PySem.W.Frag} {F H F' H' : Hp} {C : Addr} {sd : SpD}
end
end DL

set_option Elab.async false
set_option linter.all false
set_option maxRecDepth 100000
/-! classes called with keywords, defs with a star, classmethods -/
namespace DL
open PySem PySem.Spec PyProof.Rows L2
section
variable {X : Cx} {k n : Nat} {f g C : Addr} {fd : FuncData} {ps ks : List Str} {sp : Sp} {E : L2.St → XK} {x m : Str} {p pos apos : Pos} {e o : Expr} {es : List Expr} {kws : List Keyword} {t tk : TA} {to : TE} {gU : List Value → List Value → List Value} {gV : List V → List V → List V} {i : Nat}
/-! ### a def by what its values are (a star among its parameters) -/
/-! ### C.m(..), m a classmethod -/
end
end DL

set_option Elab.async false
set_option linter.all false
set_option maxRecDepth 100000
/-! the same in data -/
namespace DL
open PySem PySem.Spec PyProof.Rows L2
section
variable {K : PySem.W.Frag} {c : Fc} {W : WX} {F H : Hp} {ow : Addr → Option Hold} {δ : DSt} {tmp : List (V × DV)} {σ : L2.St}
end
section
variable {X : Cx} {c : Fc} {W : WX} {k n : Nat} {f g C : Addr} {fd : FuncData} {ps ks : List Str} {sd : SpD} {x m : Str} {p pos apos kpos : Pos} {e o : Expr} {es : List Expr} {kws : List Keyword} {t : TD} {ta tk : TDA} {nm : Option Str} {gU : List Value → List Value → List Value} {gV : List V → List V → List V} {i : Nat}
/-! ### by values alone -/
end
/-! ### a def with a star -/
section
variable {P : Program} {w : World} {K : PySem.W.Frag} {mg : Str → Option Value} {base : Heap}
end
end DL
namespace DR
open PySem PySem.Spec PyProof.Rows L2 DL
section
variable {δ : DSt} {Q : DK} {E : XD}
end
end DR

set_option Elab.async false
set_option linter.all false
set_option maxRecDepth 100000
/-! walking an object whose __iter__ hands back iter(self.f), f a tuple -/
namespace DL
open PySem PySem.Spec PyProof.Rows L2
/-! ### iter of a tuple -/
abbrev titObj (l : Addr) : Obj := { cls := .type "tuple_iterator", data := .fields #[.ref l, .int 0 0] }
def TitO (l it : Addr) : HO := .ext fun h => h.get? it = some (titObj l)
theorem titO_ok {P : Program} {w : World} {G : Hp} {h : Heap} {l it : Addr} (e : h.get? it = some (titObj l)) : ObjOk P w G h it (TitO l it) := ⟨e, ⟨_, e⟩, fun _ _ q k => k _ q⟩
theorem run_iterT {prog : Program} {w : World} {A : Around} {E : Value → Shared → Prop} {s : Shared} {l : Addr} {items : Array Value} {Q : Value → Shared → Prop} (hl : s.heap.IsTuple l items) (h : Q (.ref s.heap.objs.size) { s with heap := s.heap.push (titObj l) }) : wpAny (model prog w) A (call (.builtin "iter") [.ref l]) Q E s := by
  refine Calls.call_function_entry (by decide +kernel) (by decide +kernel) PySem.W.kdk_entry_iter (PySem.W.kdk_args_iter _) ?_
  unfold Builtin.«iter»
  refine wpAny_bind (m := someArgs "iter" 1 2 _) (wpAny_of_eq (a := [Value.ref l]) (by first | rfl | kernel_rfl!) ?_)
  show wpAny _ _ (pyIter (.ref l) >>= _) _ _ s
  exact wpAny_bind (wpAny_pyIter_tuple hl (wpAny_pure ⟨_, rfl, h⟩))
def rIterT (K : PySem.W.Frag) (n : Nat) : List V → Hp → VK → Prop := fun xs G Q => ∃ (l : Addr) (zs : List V), xs = [.ref l] ∧ SqT K G l zs ∧ ∀ it, G it = none → n ≤ it → Q (.ref it) (upd G it (TitO l it))
theorem call_iterT {X : Cx} : CallR X (.builtin "iter") (rIterT X.K X.s_0.heap.objs.size) := by
  rintro pins s σ G xs us Q I r ⟨l, zs, rfl, hq, q⟩
  obtain ⟨u, rfl, ru⟩ := r.one
  obtain rfl : u = Value.ref l := ru
  obtain ⟨its, rv, pl, hz⟩ := I.tuple hq
  exact run_iterT (items := its.toArray) pl ⟨.ref s.heap.objs.size, _, I.laid (t' := s.toks) (fun _ _ e => Heap.get?_push_of_some _ e) (Nat.le_refl _) (titO_ok (Heap.get?_push_size _ rfl)), rfl, q _ (I.hok.fresh (Nat.le_refl _)) I.sz⟩
/-! ### a def run where it stands -/
theorem run_at {P : Program} {w : World} {K : PySem.W.Frag} {mg : Str → Option Value} {base : Heap} {k : Nat} {f : Addr} {name qual : Str} {params : Arguments} {body : List Stmt} {scope : Scope} {dV kV doc pm cdv ct oc : Value} {an od : Option Addr}
    {osl : Array (Option Value)} {N ps : List Str} (lk : K.lookup f = some ⟨oc, od, .func (PySem.W.fnOf name qual params body scope dV kV doc pm an cdv ct), osl⟩) (hcd : PySem.W.codeIn K cdv qual = true) (S : FnScope N ps scope)
    {A : Around} {outer : List Env} {s : Shared} {G : Hp} {args : Args} {us : List Value} {vs : List V} {Q : VK} {E : XK} (hr : Room (k + 1) A) (e0 : Env0 P w K mg base A outer s G) (hb : BindsTo s (PySem.W.fnOf name qual params body scope dV kV doc pm an cdv ct) args (ps.zip us)) (rv : Vals vs us) (hl : vs.length = ps.length)
    (hbody : Room k (A.deeper (envOfC qual scope s.heap.objs.size f cdv)) → ∃ t, PSs (cxOf (L2.CX P w) P w K mg base N qual scope f cdv A outer s G E) body t ∧ t { nx := fun _ G2 => Q .non G2, rt := Q } (start N vs) G) :
    codeAny (model P w) A (.call (.ref f) args) (CR (L2.CX P w) outer P w G s Q E) s := by
  have kin : K.In s.heap := e0.mod.kin.keeps fun b o e => (e0.bs b o e).1
  have lim : s.heap.NoLimit := e0.mod.nolimit.keeps fun b o e => (e0.bs b o e).1
  refine codeAny_call_function hr.depth (kin _ _ lk) rfl S.co S.gen rfl (PySem.W.codeRec_of kin hcd) (hb _ _ _ _ (wpAny_newFunctionEnv_cells S.kind (fun y hy => ?_) fun env he s1 x => ?_))
  · rcases S.par y.1 (List.of_mem_zip hy).1 with q | q
    · exact .inl q
    · exact .inr ⟨q, PySem.W.cellsFrom_some _ _ _ (.inl q)⟩
  · subst he
    obtain ⟨t, ht, hq⟩ := hbody (hr.deeper _)
    have I0 : Inv (cxOf (L2.CX P w) P w K mg base N qual scope f cdv A outer s G E) [] (start N vs) G s1 := inv_start S hr.hd e0 hl rv x
    refine ⟨lim.keeps x.toInCall.keep, codeAny_func (wpAny_mono (ht.run [] s1 (start N vs) G _ I0 hq) (fun fl s2 z => ?_) fun _ _ z => z)⟩
    cases fl with
    | ret u => obtain ⟨v, σ2, G2, J, rv2, q⟩ := z; exact ⟨v, G2, J.os, J.bare, J.base, J.hok, rv2, q⟩
    | next => obtain ⟨σ2, G2, J, q⟩ := z; exact ⟨V.non, G2, J.os, J.bare, J.base, J.hok, rfl, q⟩
    | brk => obtain ⟨_, _, _, q⟩ := z; exact q.elim
    | cont => obtain ⟨_, _, _, q⟩ := z; exact q.elim
/-! ### the class's __iter__ -/
/-- def __iter__(self): return iter(self.fld) -/
structure IterOf (K : PySem.W.Frag) (C f : Addr) (qual fld : Str) (st : Stmt) (fd : FuncData) : Prop where
  at_ : PySem.W.findIn K (.ref C) "__iter__" = some (some (.ref f))
  fn : PySem.W.isFn K (.ref f) = true
  fu : Fun K "__iter__" qual st f fd
  sc : FnScope ["self"] ["self"] (defScope st)
  bd : Binds K fd ["self"] []
  body : ∀ (P : Program) (w : World) (mg : Str → Option Value) (base : Heap) (A : Around) (outer : List Env) (s : Shared) (G : Hp) (E : XK) (cdv : Value), mg "iter" = none → ∃ t, PSs (cxOf (L2.CX P w) P w K mg base ["self"] qual (defScope st) f cdv A outer s G E) (defBody st) t ∧
    ∀ (a dx q : Addr) (us : List (Str × V)) (xs : List V) (Q : VK), G a = some (.ins C dx us) → us.lookup fld = some (.ref q) → SqT K G q xs → (∀ it, G it = none → s.heap.objs.size ≤ it → Q (.ref it) (upd G it (TitO q it))) → t { nx := fun _ G2 => Q .non G2, rt := Q } (start ["self"] [.ref a]) G
section
variable {X : Cx} {C f : Addr} {qual fld : Str} {st : Stmt} {fd : FuncData}
theorem iter_run (T : IterOf X.K C f qual fld st fd) (hm : X.mg "iter" = none) {k : Nat} (hr : Room (k + 2) X.A) {pins : List (Addr × Obj)} {σ : L2.St} {G : Hp} {s : Shared} {a dx q : Addr} {us : List (Str × V)} {xs : List V} {tg : Expr} {R : It → Hp → Prop} (I : Inv X pins σ G s)
    (ha : G a = some (.ins C dx us)) (hf : us.lookup fld = some (.ref q)) (hq : SqT X.K G q xs) (h : R (Itt X.K q) G) : wpAny (model X.prog X.w) X.A (pyIter (.ref a)) (PIE X pins σ tg R) X.xe s := by
  obtain ⟨_, O, _⟩ := ins_get I.hok ha
  obtain ⟨_, J, _⟩ := O.look
  obtain ⟨_, fr⟩ := I.fr
  refine PySem.W.owit_iter fr I.ok.mod.kin J T.at_ T.fn ?_
  obtain ⟨oc, od, kV, doc, pm, an, cdv, ct, osl, rfl, lk, hcd⟩ := T.fu.ex
  have bd := T.bd s [.ref a] I.kIn rfl
  have run := run_at (mg := X.mg) (base := X.base) (w := X.w) (P := X.prog) (k := k + 1) lk hcd T.sc (A := X.A) (outer := X.stack) (s := s) (G := G) (args := ⟨[.ref a], []⟩) (us := [.ref a]) (vs := [V.ref a]) (E := fun _ _ _ => False)
    (Q := fun v G2 => ∃ it, v = .ref it ∧ G it = none ∧ s.heap.objs.size ≤ it ∧ G2 = upd G it (TitO q it)) hr I.env0 bd (.cons rfl .nil) rfl (fun _ => by
      obtain ⟨t, ht, hread⟩ := T.body X.prog X.w X.mg X.base X.A X.stack s G (fun _ _ _ => False) cdv hm
      exact ⟨t, ht, hread a dx q us xs (fun v G2 => ∃ it, v = .ref it ∧ G it = none ∧ s.heap.objs.size ≤ it ∧ G2 = upd G it (TitO q it)) ha hf hq fun it n1 n2 => ⟨it, rfl, n1, n2, rfl⟩⟩)
  refine wpAny_call (codeAny_mono run fun fin s2 z => ?_)
  cases fin with
  | error er => exact passAt (W := W0) takes0 σ pins _ _ er s2 I z
  | ok fl =>
    cases fl with
    | next => exact z.elim
    | brk => exact z.elim
    | cont => exact z.elim
    | ret u =>
      obtain ⟨v, G2, I2, rv, it, rfl, hn, hy, rfl⟩ := I.after z
      obtain rfl : u = Value.ref it := rv
      have got : s2.heap.get? it = some (titObj q) := (I2.hok it _ upd_same).1
      have ti : s2.heap.IsTupleIter it q 0 := ⟨_, got, rfl, rfl⟩
      unfold PySem.W.OwitIt
      refine wpAny_specialOf ti.typeIs F.slot_tuple_iterator_next.lookup ?_
      have I3 := ItX.inv_drop I2 upd_same
      have fp := ItX.inv_fp I2 upd_same (Nat.le_trans I.sz hy)
      have e : ItX.dropH (upd G it (TitO q it)) it = G := ItX.dropH_upd hn
      rw [e] at I3 fp
      exact ⟨it, [it], _, _, G, rfl, I3, turn_tuple q it, ti, fun b hb => by rw [List.mem_singleton.mp hb]; exact fp, h⟩
def iOwn (K : PySem.W.Frag) (C : Addr) (fld : Str) (tl : TE) : TI := fun σ G R => tl σ G fun x G1 => ∃ a dx us q xs, x = .ref a ∧ G1 a = some (.ins C dx us) ∧ us.lookup fld = some (.ref q) ∧ SqT K G1 q xs ∧ R (Itt K q) G1
theorem pi_own {tg l : Expr} {tl : TE} (T : IterOf X.K C f qual fld st fd) (hm : X.mg "iter" = none) {k : Nat} (hr : Room (k + 2) X.A) (hl : PE X l tl) : PI X tg l (iOwn X.K C fld tl) :=
  ⟨fun pins s σ G R I h => thn (hl.run pins s σ G _ I h) fun v s1 ⟨x, G1, I1, rx, a, dx, us, q, xs, ex, ha, hf, hq, hR⟩ => by
    subst ex
    obtain rfl : v = Value.ref a := rx
    exact iter_run T hm hr I1 ha hf hq hR⟩
end
/-! ### in data -/
section
variable {X : Cx} {c : Fc} {W : WX} {C f : Addr} {qual fld : Str} {st : Stmt} {fd : FuncData}
end
end DL
namespace DR
open PySem PySem.Spec PyProof.Rows L2 DL
end DR

set_option Elab.async false
set_option linter.all false
set_option maxRecDepth 100000
/-! defs as their callers know them -/
namespace DL
open PySem PySem.Spec PyProof.Rows L2
section
variable (P : Program) (w : World) (K : PySem.W.Frag) (mg : Str → Option Value) (base : Heap)
/-- == -/
structure DefE (C : Addr) (k : Nat) (ps : List Str) (sd : SpD) where
  f : Addr
  fd : FuncData
  ok : FnOk P w K mg base (L2.CX P w) k f fd ps (spOf K sd)
  b : Binds K fd ps []
  at_ : PySem.W.findIn K (.ref C) "__eq__" = some (some (.ref f))
  fn : PySem.W.isFn K (.ref f) = true
  ne : NeOf K C f
/-- a property -/
structure DefP (C : Addr) (x : Str) (k : Nat) (ps : List Str) (sd : SpD) where
  p : Addr
  f : Addr
  fd : FuncData
  ok : FnOk P w K mg base (L2.CX P w) k f fd ps (spOf K sd)
  b : Binds K fd ps []
  po : PropOf K C x p f
/-- a method -/
structure DefM (C : Addr) (x : Str) (k : Nat) (ps : List Str) (sd : SpD) where
  f : Addr
  fd : FuncData
  ok : FnOk P w K mg base (L2.CX P w) k f fd ps (spOf K sd)
  b : Binds K fd ps []
  me : Meth K C x f
end
end DL

set_option Elab.async false
set_option linter.all false
set_option maxRecDepth 100000
/-! enumerate over a tuple -/
namespace EnT
open PySem
open PySem.Sem (wp)
section
variable {prog : Program} {w : World} {A : Around} {E : Value → Shared → Prop} {s : Shared} {e it l : Addr} {i : Nat} {items : Array Value} {x old : Value}
end
end EnT

set_option Elab.async false
set_option linter.all false
set_option maxRecDepth 100000
namespace EnT
open PySem
open PySem.Sem (wp)
open AutoSeq1 (wpAny_loadPart')
end EnT
namespace DL
open PySem PySem.Spec PyProof.Rows L2
section
variable {X : Cx} {c : Fc} {W : WX}
end
end DL
namespace DR
open PySem PySem.Spec PyProof.Rows L2 DL
end DR

set_option Elab.async false
set_option linter.all false
set_option maxRecDepth 100000
/-! zip of three lists -/
namespace Z3
open PySem
open PySem.Sem (wp)
section
variable {prog : Program} {w : World} {A : Around} {E : Value → Shared → Prop} {s : Shared}
variable {n l1 l2 l3 : Nat} {i : Nat} {xs ys zs : Array Value} {x y z a b c : Value}
end
/-! ### making one -/
end Z3

set_option Elab.async false
set_option linter.all false
set_option maxRecDepth 100000
namespace DL
open PySem PySem.Spec PyProof.Rows L2
section
variable {X : Cx} {c : Fc} {W : WX}
end
end DL
namespace DR
open PySem PySem.Spec PyProof.Rows L2 DL
end DR

set_option Elab.async false
set_option linter.all false
set_option maxRecDepth 100000
/-! equality of plain data -/
namespace DL
open PySem PySem.Spec PyProof.Rows L2
/-- may be compared, n deep at most -/
def Dp_ (n : Nat) (d : D) : Prop := d.isPy = true ∧ d.py.depth ≤ n
theorem Dp_.cmp {n : Nat} {d : D} (h : Dp_ n d) (l : n ≤ 64 := by decide) : Cmp d := ⟨h.1, Nat.le_trans h.2 l⟩
theorem Dp_.le {n m : Nat} {d : D} (h : Dp_ n d) (l : n ≤ m) : Dp_ m d := ⟨h.1, Nat.le_trans h.2 l⟩
theorem dp_str {x : Str} : Dp_ 1 (.str x) := ⟨rfl, by simp [D.py, PyData.depth]⟩
theorem dp_int {x : Int} : Dp_ 1 (.int x) := ⟨rfl, by simp [D.py, PyData.depth]⟩
theorem dp_all {n : Nat} : ∀ {ds : List D}, (∀ d ∈ ds, Dp_ n d) → isPyL ds = true ∧ PyData.depthAll (pyL ds) ≤ n
  | [], _ => ⟨rfl, by simp [pyL, PyData.depthAll]⟩
  | d :: ds, h => by
    obtain ⟨a, b⟩ := dp_all fun e he => h e (List.mem_cons_of_mem _ he)
    obtain ⟨c, e⟩ := h d List.mem_cons_self
    refine ⟨by simp [isPyL, a, c], ?_⟩
    simp [pyL, PyData.depthAll]
    omega
theorem dp_tup {n : Nat} {ds : List D} (h : ∀ d ∈ ds, Dp_ n d) : Dp_ (n + 1) (.tup ds) := by
  obtain ⟨a, b⟩ := dp_all h
  refine ⟨a, ?_⟩
  simp [D.py, PyData.depth]
  omega
theorem dp_lst {n : Nat} {ds : List D} (h : ∀ d ∈ ds, Dp_ n d) : Dp_ (n + 1) (.lst ds) := by
  obtain ⟨a, b⟩ := dp_all h
  refine ⟨a, ?_⟩
  simp [D.py, PyData.depth]
  omega
theorem dp_map {α : Type} {n : Nat} {r : α → D} {l : List α} (h : ∀ a ∈ l, Dp_ n (r a)) : ∀ d ∈ l.map r, Dp_ n d := fun d hd => by
  obtain ⟨a, ha, rfl⟩ := List.mem_map.mp hd
  exact h a ha
theorem eqv_str {a b : Str} : PyData.eqv (D.str a).py (D.str b).py = decide (a = b) := by
  simp only [D.py, PyData.eqv]
  by_cases h : a = b <;> simp [h]
theorem eqd_t {x y : D} {b : Bool} {Q : D → Prop} (c1 : Cmp x) (c2 : Cmp y) (h : PyData.eqv x.py y.py = b) (k : Q (.bl b)) : eqP false x y Q := ⟨c1, c2, by rw [if_neg Bool.false_ne_true, h]; exact k⟩
theorem eqd_f {x y : D} {b : Bool} {Q : D → Prop} (c1 : Cmp x) (c2 : Cmp y) (h : PyData.eqv x.py y.py = b) (k : Q (.bl (!b))) : eqP true x y Q := ⟨c1, c2, by rw [if_pos rfl, h]; exact k⟩
end DL

set_option Elab.async false
set_option linter.all false
set_option maxRecDepth 100000
set_option maxHeartbeats 2000000
/-! DL30: an own exception class made without an argument. -/
namespace DL
open PySem PySem.Spec PyProof.Rows L2
section
variable {X : Cx}
end
end DL

set_option Elab.async false
set_option linter.all false
set_option maxRecDepth 100000
set_option maxHeartbeats 2000000
/-! DL31: a try whose suite knows the exception's address; isinstance of what was caught. -/
namespace DL
open PySem PySem.Spec PyProof.Rows L2
section
variable {X : Cx} {c : Fc} {W : WX} {pos : Pos}
/-! ### isinstance(e, c) -/
end
end DL
namespace DR
open PySem PySem.Spec PyProof.Rows L2 DL
end DR

set_option Elab.async false
set_option linter.all false
set_option maxRecDepth 100000
set_option maxHeartbeats 2000000
/-! DL32: a, b, c = x, y, z with plain local names. -/
namespace DL
open PySem PySem.Spec PyProof.Rows L2
def par3D (i j l : Nat) (oi oj ol : Bool) (t : TDK) : TDS := fun D δ => t δ (fun xs δ1 => ∃ x y z, xs = [x, y, z] ∧ D.nx (((δ1.set l (some (asD ol z))).set j (some (asD oj y))).set i (some (asD oi x)))) D.ex
section
variable {X : Cx} {c : Fc} {W : WX}
theorem psd_par3 {i j l : Nat} {oi oj ol : Bool} {x y z : Str} {a b e : Expr} {t : TDK} {px py pz pt pos : Pos} {kt k2 pt2} (ha : PA X [a, b, e] (LK X.K c W t)) (ni : i ∉ c.sl) (nj : j ∉ c.sl) (nl : l ∉ c.sl) (h : ∀ {ta : TA}, PA X [a, b, e] ta → PS X (.Assign [.Tuple [.Name x px, .Name y py, .Name z pz] k2 pt2] (.Tuple [a, b, e] kt pt) pos) (tPar3 i j l ta)) (hij : i ≠ j) (hil : i ≠ l) (hjl : j ≠ l) :
    PS X (.Assign [.Tuple [.Name x px, .Name y py, .Name z pz] k2 pt2] (.Tuple [a, b, e] kt pt) pos) (LS X.K c W (par3D i j l oi oj ol t)) :=
  PS_imp (h ha) fun D σ H ⟨δ, tmp, Dd, S, q, k, kr, kb, kc, w⟩ => ⟨δ, tmp, _, _, S, q, fun vs xs δ' H' ⟨x, y, z, e, q'⟩ hl S' => by
    subst e
    match vs, hl with
    | [v, u, s], _ =>
      obtain ⟨F, ow, S'⟩ := S'
      have S2 : SttF X.K c F ow δ' ((s, z) :: (u, y) :: (v, x) :: tmp) σ H' := S'
      obtain ⟨F3, S3⟩ := S2.top_as ol
      obtain ⟨F4, ow4, S4⟩ := S3.set' nl
      obtain ⟨F5, S5⟩ := S4.top_as oj
      obtain ⟨F6, ow6, S6⟩ := S5.set' nj
      obtain ⟨F7, S7⟩ := S6.top_as oi
      refine ⟨v, u, s, rfl, k _ _ _ q' ?_⟩
      rw [List.set_comm _ _ hjl, List.set_comm _ _ hil, List.set_comm _ _ hij]
      exact S7.set' ni, w⟩
end
end DL
namespace DR
open PySem PySem.Spec PyProof.Rows L2 DL
theorem par3 {i j l : Nat} {oi oj ol : Bool} {t : TDK} {D : EndsD} {δ : DSt} (h : t δ (fun xs δ1 => ∃ x y z, xs = [x, y, z] ∧ D.nx (((δ1.set l (some (asD ol z))).set j (some (asD oj y))).set i (some (asD oi x)))) D.ex) : par3D i j l oi oj ol t D δ := h
end DR

set_option Elab.async false
set_option linter.all false
set_option maxRecDepth 100000
set_option maxHeartbeats 2000000
/-! DL33: several except clauses whose suites know what was caught; a field of it. -/
namespace DL
open PySem PySem.Spec PyProof.Rows L2
/-! ### e.f of what was caught -/
end DL
namespace DR
open PySem PySem.Spec PyProof.Rows L2 DL
end DR

set_option Elab.async false
set_option linter.all false
set_option maxRecDepth 100000
set_option maxHeartbeats 2000000
/-! DL34: try .. except X: without a name. -/
namespace DL
open PySem PySem.Spec PyProof.Rows L2
end DL
namespace DR
open PySem PySem.Spec PyProof.Rows L2 DL
end DR

set_option Elab.async false
set_option linter.all false
set_option maxRecDepth 100000
/-! DL35: own errors whose __init__ sets fields (the last one set stands first) -/
namespace DL
open PySem PySem.Spec PyProof.Rows L2
def ErrR (K : PySem.W.Frag) (B : Addr) (ns : List Str) : Sp := fun vs H Q _ => ∃ (a : Addr) (xs : List V), vs = .ref a :: xs ∧ xs.length = ns.length ∧ H a = some (exo a B none) ∧ ∀ d, H d = none → d ≠ a → Q .non (upd (upd H d (exd d (ns.zip xs).reverse)) a (exo a B (some d)))
theorem repF_app {K : PySem.W.Frag} {F : Hp} : ∀ {vs us : List (Str × V)} {ds es : List (Str × D)}, RepF K F vs ds → RepF K F us es → RepF K F (vs ++ us) (ds ++ es)
  | _, _, _, _, .nil, g => g
  | _, _, _, _, .cons h t, g => .cons h (repF_app t g)
theorem repF_rev {K : PySem.W.Frag} {F : Hp} : ∀ {vs : List (Str × V)} {ds : List (Str × D)}, RepF K F vs ds → RepF K F vs.reverse ds.reverse
  | _, _, .nil => .nil
  | _, _, .cons h t => by
    rw [List.reverse_cons, List.reverse_cons]
    exact repF_app (repF_rev t) (.cons h .nil)
section
variable (P : Program) (w : World) (K : PySem.W.Frag) (mg : Str → Option Value) (base : Heap)
structure DefX (x : Str) (B : Addr) (ns : List Str) where
  f : Addr
  fd : FuncData
  ps : List Str
  ox : OexC K B
  ini : PySem.W.findIn K (.ref B) "__init__" = some (some (.ref f))
  ty : PySem.W.typeIn K (.ref f) = some (.type "function")
  ok : FnOk P w K mg base CX0 1 f fd ps (ErrR K B ns)
  b : Binds K fd ps []
  mg : mg x = some (.ref B)
end
section
variable {P : Program} {w : World} {K : PySem.W.Frag} {mg : Str → Option Value} {base : Heap} {B : Addr}
theorem ok_err1 {qual n : Str} {st : Stmt} {f : Addr} {fd : FuncData} (F : Fun K "__init__" qual st f fd) (sc : FnScope ["self", n] ["self", n] (defScope st)) (ox : OexC K B) (nw : PySem.W.findIn K (.ref B) n = some none)
    (ht : ∀ (cdv : Value) (A : Around) (outer : List Env) (s : Shared) (H : Hp) (E : XK), PSs (cxOf CX0 P w K mg base ["self", n] qual (defScope st) f cdv A outer s H E).nox (defBody st) (tOst K n (tVar 0) (tVar 1))) :
    FnOk P w K mg base CX0 1 f fd ["self", n] (ErrR K B [n]) := by
  refine F.ok sc (fun vs H Q E h => ?_) (fun cdv A outer s H vs Q E hr h => ?_)
  · obtain ⟨a, xs, rfl, hl, _⟩ := h
    match xs, hl with
    | [_], _ => rfl
  · obtain ⟨a, xs, rfl, hl, ha, k⟩ := h
    obtain ⟨x, rfl⟩ : ∃ x, xs = [x] := by
      match xs, hl with
      | [x], _ => exact ⟨x, rfl⟩
    refine ⟨_, ht cdv A outer s H E, ?_⟩
    refine ⟨x, rfl, .ref a, rfl, a, B, rfl, ox, nw, .inl ⟨ha, fun dx n ne => ?_⟩⟩
    exact k dx n ne
end
section
variable {X : Cx} {c : Fc} {W : WX}
def raiseR (B : Addr) (ns : List Str) (ta : TDA) : TDS := fun D δ => ta δ (fun as δ1 => ∃ ds, as = ds.map .d ∧ ds.length = ns.length ∧ ds.length ≤ 1000 ∧ D.ex ⟨B, some (ns.zip ds).reverse⟩ δ1) D.ex
theorem psd_raiseR {x : Str} {B : Addr} {ns : List Str} {e : Expr} {es : List Expr} {ta : TDA} {p pos pos2 : Pos} (hc : X.calm = true) (tk : Takes X W)
    (hk : ∀ {ta : TA}, PA X (e :: es) ta → PMk X (.Call (.Name x p) (e :: es) [] pos) (tMkO B (ErrR X.K B ns) [] ta)) (ha : PA X (e :: es) (LA X.K c W ta)) :
    PS X (.Raise (some (.Call (.Name x p) (e :: es) [] pos)) none pos2) (LS X.K c W (raiseR B ns ta)) :=
  PS_imp (ps_raise hc tk (hk ha)) fun D σ H ⟨δ, tmp, Dd, S, q, k, kr, kb, kc, w⟩ => ⟨δ, tmp, _, _, S, q, fun vs as δ1 F ow H1 ⟨ds, ea, hl, hz, q1⟩ S1 ra => by
    subst ea
    have r := args_d ra
    refine ⟨by rw [r.len]; exact hz, fun a na => ?_⟩
    refine ⟨a, vs, by rw [List.append_nil], by rw [r.len]; exact hl, upd_same, fun d nd ne => ⟨rfl, d, (ns.zip vs).reverse, upd_same, by rw [upd_ne ne, upd_same], by rwa [upd_ne ne] at nd, ?_⟩⟩
    have nd1 : H1 d = none := by rwa [upd_ne ne] at nd
    have eH : upd (del (upd (upd (upd H1 a (exo a B none)) d (exd d (ns.zip vs).reverse)) a (exo a B (some d))) a) d (.xd (ns.zip vs).reverse) = upd H1 d (.xd (ns.zip vs).reverse) := by
      funext b
      by_cases h1 : b = d
      · subst h1; rw [upd_same, upd_same]
      · rw [upd_ne h1, upd_ne h1]
        by_cases h2 : b = a
        · subst h2; rw [del_same]; exact na.symm
        · rw [del_ne h2, upd_ne h2, upd_ne h1, upd_ne h2]
    rw [eH]
    exact w _ _ _ _ _ ow _ _ q1 (S1.ext (Ext.new S1.fh nd1)) ⟨rfl, d, _, rfl, upd_same, repF_rev (repF_zip (r.mono (same_upd (Same.refl F) (S1.fh.free nd1))))⟩, w⟩
end
end DL
namespace DR
open PySem PySem.Spec PyProof.Rows L2 DL
theorem raiser {B : Addr} {ns : List Str} {ta : TDA} {D : EndsD} {δ : DSt} (h : ta δ (fun as δ1 => ∃ ds, as = ds.map .d ∧ ds.length = ns.length ∧ ds.length ≤ 1000 ∧ D.ex ⟨B, some (ns.zip ds).reverse⟩ δ1) D.ex) : raiseR B ns ta D δ := h
end DR

set_option Elab.async false
set_option linter.all false
set_option maxRecDepth 100000
/-! DL36: methods with defaults, classmethods with keywords, deep `in` of tuples, join -/
namespace DL
open PySem PySem.Spec PyProof.Rows L2
section
variable {X : Cx} {k n : Nat} {f g C : Addr} {fd : FuncData} {ps ks : List Str} {sp : Sp} {E : L2.St → XK} {x m : Str} {p pos apos : Pos} {e o : Expr} {es : List Expr} {kws : List Keyword} {t tk : TA} {to : TE} {gU : List Value → List Value → List Value} {gV : List V → List V → List V} {i : Nat}
/-! ### o.m(..) by values alone -/
/-! ### C.m(.., k = v), m a classmethod -/
end
section
variable {X : Cx} {c : Fc} {W : WX} {k n : Nat} {f g C : Addr} {fd : FuncData} {ps ks : List Str} {sd : SpD} {x m : Str} {p pos apos kpos : Pos} {e o : Expr} {es : List Expr} {kws : List Keyword} {t to : TD} {ta tk : TDA} {gU : List Value → List Value → List Value} {gV : List V → List V → List V} {i : Nat}
end
section
variable (P : Program) (w : World) (K : PySem.W.Frag) (mg : Str → Option Value) (base : Heap)
end
/-! ### x in (..), items of any depth -/
section
variable {X : Cx}
end
end DL
namespace DR
open PySem PySem.Spec PyProof.Rows L2 DL
section
variable {δ : DSt} {Q : DK} {E : XD}
end
end DR

set_option Elab.async false
set_option linter.all false
set_option maxRecDepth 100000
/-! DL37: defs with positional defaults -/
namespace DL
open PySem PySem.Spec PyProof.Rows L2
section
variable {P : Program} {w : World} {K : PySem.W.Frag} {mg : Str → Option Value} {base : Heap}
end
end DL

set_option Elab.async false
set_option linter.all false
set_option maxRecDepth 100000
/-! DL38: sep.join(texts) -/
namespace DL
open PySem PySem.Spec PyProof.Rows L2
theorem strOk_join {y : Str} (hy : PyData.strOk y = true) : ∀ {xs : List Str}, (∀ x ∈ xs, PyData.strOk x = true) → PyData.strOk (Str.join y xs) = true
  | [], _ => by
    show PyData.strOk Str.empty = true
    decide +kernel
  | [x], h => h x List.mem_cons_self
  | x :: z :: r, h => by
    show PyData.strOk (x ++ y ++ Str.join y (z :: r)) = true
    exact strOk_app (strOk_app (h x List.mem_cons_self) hy) (strOk_join hy fun a ha => h a (List.mem_cons_of_mem _ ha))
section
variable {X : Cx} {c : Fc} {W : WX}
end
end DL
namespace DR
open PySem PySem.Spec PyProof.Rows L2 DL
end DR

set_option Elab.async false
set_option linter.all false
set_option maxRecDepth 100000
set_option maxHeartbeats 2000000
/-! DL39: dict(zip(a, b)) of two tuples, a of texts -/
namespace ZT
open PySem PySem.Spec
open PySem.Sem (wp)
section
variable {prog : Program} {w : World} {A : Around} {E : Value → Shared → Prop} {s : Shared} {z TI TO T i1 i2 l1 l2 : Addr} {f : Bool} {oT : Obj} {k1 k2 : Nat} {xs ys : Array Value}
end
section
variable {prog : Program} {w : World}
end
end ZT
namespace DL
open PySem PySem.Spec PyProof.Rows L2
end DL

set_option Elab.async false
set_option linter.all false
set_option maxRecDepth 100000
set_option maxHeartbeats 2000000
/-! DL40: dicts by plain keys in data; tuple * int; index of a text; isinstance of what was caught, of a built-in class -/
namespace DL
open PySem PySem.Spec PyProof.Rows L2
/-! ### dict(zip(a, b)) -/
section
variable {X : Cx} {c : Fc} {W : WX}
/-! ### d[k] -/
def valK (kvs : List (Key × D)) (k : Key) : Option D := (kvs.find? fun p => decide (p.1 = k)).map (·.2)
theorem repK_get {K : PySem.W.Frag} {F : Hp} {k : Key} : ∀ {vs : List (Key × V)} {ds : List (Key × D)}, RepK K F vs ds → ∀ d, valK ds k = some d → ∃ v, valV vs k = some v ∧ Rep K F v d
  | _, _, .nil => fun d h => nomatch h
  | _, _, .cons (n := n) (v := v) (d := d) (vs := vs) (ds := ds) h t => by
    by_cases e : n = k
    · have e1 : valK ((n, d) :: ds) k = some d := by simp [valK, List.find?_cons, e]
      rw [e1, valV_pos (p := (n, v)) e]
      exact fun d z => by cases z; exact ⟨v, rfl, h⟩
    · have e1 : valK ((n, d) :: ds) k = valK ds k := by simp [valK, List.find?_cons, e]
      rw [e1, valV_neg (p := (n, v)) e]
      exact repK_get t
def keyOne : Key → D
  | .inl i => .int i
  | .inr x => .str x
theorem key_one {K : PySem.W.Frag} {F : Hp} {v : V} : ∀ {k : Key}, Rep K F v (keyOne k) → v = kV k
  | .inl i, r => by cases r; rfl
  | .inr x, r => by cases r; rfl
def getK (to ti : TD) : TD := fun δ Q E => to δ (fun o δ1 => ti δ1 (fun k δ2 => ∃ kvs key d, o.toD = .dK kvs ∧ k.toD = keyOne key ∧ valK kvs key = some d ∧ Q (.d d) δ2) E) E
theorem pd_getK {o i : Expr} {to ti : TD} {pos : Pos} (h : ∀ {to ti : TE}, PE X o to → PE X i ti → PE X (.Subscript o i pos) (tDGet to ti)) (ho : PE X o (LE X.K c W to)) (hi : PE X i (LE X.K c W ti)) : PE X (.Subscript o i pos) (LE X.K c W (getK to ti)) :=
  PE_imp (h ho hi) fun σ H Q ⟨δ, tmp, Qd, Ed, S, q, k, w⟩ => ⟨δ, tmp, _, Ed, S, q, fun u x δ1 H1 q1 S1 => ⟨δ1, _, _, Ed, S1, q1, fun t y δ2 H2 ⟨kvs, key, d, eo, ek, ed, q2⟩ ⟨F, ow, S2⟩ => by
    obtain ⟨F3, S3, _⟩ := S2.top_frz2
    rw [eo, ek] at S3
    obtain rfl := key_one S3.top
    have r0 := S3.pop.top
    cases r0 with
    | dK s r =>
      obtain ⟨z, ez, rz⟩ := repK_get r d ed
      exact ⟨_, z, rfl, .inl ⟨_, key, rd_mono S3.fh s, rfl, ez.symm⟩, k _ _ _ _ q2 ⟨F3, ow, S3.pop.pop.push rz⟩⟩, w.push⟩, w⟩
/-! ### xs.index(x), texts -/
/-! ### isinstance(e, X), X a built-in class -/
/-! ### (x, ..) * n -/
end
end DL
namespace DR
open PySem PySem.Spec PyProof.Rows L2 DL
section
variable {δ : DSt} {Q : DK} {E : XD}
theorem getK {to ti : TD} (h : to δ (fun o δ1 => ti δ1 (fun k δ2 => ∃ kvs key d, o.toD = .dK kvs ∧ k.toD = keyOne key ∧ valK kvs key = some d ∧ Q (.d d) δ2) E) E) : DL.getK to ti δ Q E := h
end
end DR

set_option Elab.async false
set_option linter.all false
set_option maxRecDepth 100000
set_option maxHeartbeats 2000000
/-! DL41: f(a, *xs) of a def with a star; sum of a list of numbers -/
namespace DL
open PySem PySem.Spec PyProof.Rows L2
section
variable {X : Cx} {c : Fc} {W : WX}
end
section
variable {X : Cx} {c : Fc} {W : WX}
variable {k : Nat} {f C : Addr} {sd : SpD} {x m : Str} {p pos apos : Pos} {e o : Expr} {es : List Expr} {ta : TDA}
end
/-! ### if xs: a tuple or a list -/
def tseqD (t : TD) : TDT := fun δ Q E => t δ (fun x δ1 => ∃ xs, (x.toD = .tup xs ∨ x.toD = .lst xs) ∧ Q (!xs.isEmpty) δ1) E
section
variable {X : Cx} {c : Fc} {W : WX}
theorem repL_nil {K : PySem.W.Frag} {F : Hp} : ∀ {vs : List V} {xs : List D}, RepL K F vs xs → vs.isEmpty = xs.isEmpty
  | _, _, .nil => rfl
  | _, _, .cons _ _ => rfl
theorem ptd_seq {e : Expr} {t : TD} (he : PE X e (LE X.K c W t)) (h : ∀ whole, isTrue e X.env whole = (do let v ← whole; standAt e.pos; holding [v] (truthy v)) := by intro _; rfl) : PT X e (LT X.K c W (tseqD t)) :=
  PT_imp (pt_truth he h) fun σ H Q ⟨δ, tmp, Qd, Ed, S, q, k, w⟩ => ⟨δ, tmp, _, Ed, S, q, fun v x δ1 H1 ⟨xs, ex, q1⟩ ⟨F, ow, S1⟩ => by
    obtain ⟨F', S2, _⟩ := S1.top_frz
    rcases ex with e | e <;> rw [e] at S2 <;> have r := S2.top
    · cases r with | tup s1 r1 => exact ⟨!xs.isEmpty, .inr (.inl ⟨_, SqT.of (S2.fh _ _ s1), by rw [repL_nil r1]⟩), k _ _ _ q1 ⟨F', ow, S2.pop⟩⟩
    · cases r with | lst s1 r1 => exact ⟨!xs.isEmpty, .inl ⟨_, SqL.of (S2.fh _ _ s1), by rw [repL_nil r1]⟩, k _ _ _ q1 ⟨F', ow, S2.pop⟩⟩, w⟩
end
end DL
namespace DR
open PySem PySem.Spec PyProof.Rows L2 DL
variable {δ : DSt} {E : XD}
theorem tseq {t : TD} {Q : Bool → DSt → Prop} (h : t δ (fun x δ1 => ∃ xs, (x.toD = .tup xs ∨ x.toD = .lst xs) ∧ Q (!xs.isEmpty) δ1) E) : DL.tseqD t δ Q E := h
end DR

set_option Elab.async false
set_option linter.all false
set_option maxRecDepth 100000
/-! comprehensions whose body may raise: the exception leaves the block, and then the def or a try of it -/
namespace L2
open PySem PySem.Spec PyProof.Rows
section
variable {M : Model} {A : Around} {E : Value → Shared → Prop} {s : Shared} {env : Env}
end
section
variable {M : Model} {A : Around} {E : Value → Shared → Prop} {s : Shared} {env : Env} {base : Heap} {outer : List Env} {e L : Addr} {Z : Obj → Prop} {fl : Value}
end
end L2
namespace L2
open PySem PySem.Spec PyProof.Rows
section
variable {X : Cx}
end
end L2
namespace L2
open PySem PySem.Spec PyProof.Rows
section
variable {X : Cx} {W : WX}
end
end L2
namespace L2
open PySem PySem.Spec PyProof.Rows
section
variable {X : Cx} {W : WX} {elt tg iter : Expr} {ifs : List Expr} {scope : Scope} {own : List (Str × Nat)} {pos : Pos} {wi : TI} {g : TG} {tt : WX → TT} {te : WX → TE}
end
end L2

set_option Elab.async false
set_option linter.all false
set_option maxRecDepth 100000
namespace DL
open PySem PySem.Spec PyProof.Rows L2
section
variable {K : PySem.W.Frag} {c : Fc} {F F' H H' : Hp} {ow ow' : Addr → Option Hold} {δ δ' : DSt} {tmp : List (V × DV)} {σ σ' : L2.St}
end
section
variable {X : Cx} {c : Fc} {W : WX}
end
end DL
namespace DR
open PySem PySem.Spec PyProof.Rows L2 DL
end DR

set_option Elab.async false
set_option linter.all false
set_option maxRecDepth 100000
/-! zip of two, each a list or a tuple, of one length -/
namespace Z2
open PySem
open PySem.Sem (wp)
section
variable {prog : Program} {w : World} {A : Around} {E : Value → Shared → Prop} {s : Shared} {p q : Bool}
variable {n l1 l2 : Nat} {i : Nat} {xs ys : Array Value} {x y a b : Value}
end
/-! ### making one -/
end Z2
namespace DL
open PySem PySem.Spec PyProof.Rows L2
section
variable {X : Cx} {c : Fc} {W : WX}
end
end DL
namespace DR
open PySem PySem.Spec PyProof.Rows L2 DL
end DR

set_option Elab.async false
set_option linter.all false
set_option maxRecDepth 100000
set_option maxHeartbeats 2000000
/-! several except clauses, each with or without a name -/
namespace DL
open PySem PySem.Spec PyProof.Rows L2
section
variable {X : Cx} {bd : List Stmt} {g : ExceptHandler} {gs : List ExceptHandler} {qs : List ClauseM} {pos : Pos} {tb : WX → TS} {out : WX}
end
/-! in data -/
end DL
namespace DR
open PySem PySem.Spec PyProof.Rows L2 DL
end DR

set_option Elab.async false
set_option linter.all false
set_option maxRecDepth 100000
/-! x != [] and x == [] of any list -/
namespace DL
open PySem PySem.Spec PyProof.Rows L2
def lensNe (K : PySem.W.Frag) (r : Bool) : R2 := fun x y H Q => ∃ a b xs ys, x = .ref a ∧ y = .ref b ∧ SqL K H a xs ∧ SqL K H b ys ∧ xs.length ≠ ys.length ∧ Q (.bl r) H
def rNeX (K : PySem.W.Frag) : R2 := fun x y H Q => rNeD K x y H Q ∨ lensNe K true x y H Q
theorem op_neX {X : Cx} (hu : X.A.units + 64 < cLine) : OpR X (compareOp .NotEq) (rNeX X.K) := by
  intro pins s σ H x y v u Q I rx ry h
  rcases h with h | ⟨a, b, xs, ys, rfl, rfl, ha, hb, hl, q⟩
  · exact op_neD hu pins s σ H x y v u Q I rx ry h
  obtain rfl : v = Value.ref a := rx
  obtain rfl : u = Value.ref b := ry
  obtain ⟨i1, r1, p1, _⟩ := I.list ha
  obtain ⟨i2, r2, p2, _⟩ := I.list hb
  have l1 := r1.length
  have l2 := r2.length
  refine SeqAt.RcNeAt.lists_lengths p1.isList p2.isList ?_ (Nat.lt_of_le_of_lt (Nat.le_add_right _ _) hu) _ _ _ _ ⟨.bl _, H, I, rfl, q⟩
  simp
  omega
def lstLike (d : D) (xs : List D) : Prop := d = .lst xs ∨ d = .ro xs
abbrev neX : RD2s := fun a b Q => eqP true a b Q ∨ ∃ xs ys, lstLike a xs ∧ lstLike b ys ∧ xs.length ≠ ys.length ∧ Q (.bl true)
theorem sql_of {K : PySem.W.Frag} {F H : Hp} {v : V} {d : D} {xs : List D} (e : lstLike d xs) (s : Same F H) (r : Rep K F v d) : ∃ a vs, v = .ref a ∧ SqL K H a vs ∧ vs.length = xs.length := by
  rcases e with rfl | rfl
  · cases r with | lst s1 r1 => exact ⟨_, _, rfl, s.seq (SqL.of s1), r1.len⟩
  · cases r with | ro s1 r1 => exact ⟨_, _, rfl, s.seq s1, r1.len⟩
theorem op2_neX {K : PySem.W.Frag} : Op2s K (rNeX K) neX := fun x y a b F H Q Qd s rx ry h k => by
  rcases h with h | ⟨xs, ys, h1, h2, h3, q⟩
  · exact .inl (op2_neD x y a b F H Q Qd s rx ry h k)
  · obtain ⟨a1, vs, rfl, g1, l1⟩ := sql_of h1 s rx
    obtain ⟨b1, us, rfl, g2, l2⟩ := sql_of h2 s ry
    exact .inr ⟨a1, b1, vs, us, rfl, rfl, g1, g2, by rw [l1, l2]; exact h3, k _ _ q rfl⟩
end DL

set_option Elab.async false
set_option linter.all false
set_option maxRecDepth 100000
/-! DL47: a, b = x, y where one is a cell; a written tuple unpacked -/
namespace DL
open PySem PySem.Spec PyProof.Rows L2
section
variable {X : Cx} {c : Fc} {W : WX}
end
end DL
namespace DR
open PySem PySem.Spec PyProof.Rows L2 DL
theorem tupgV {is : List Nat} {xs : List DL.D} {δ : DSt} {Q : DSt → Prop} (h : namesG is xs δ Q) : tupG is (DV.d (.tup xs)).toD δ Q := ⟨xs, rfl, h⟩
end DR

set_option Elab.async false
set_option linter.all false
set_option maxRecDepth 100000
set_option maxHeartbeats 2000000
/-! DL48: tuple(zip(a, b)) of two tuples -/
namespace ZT
open PySem PySem.Spec
open PySem.Sem (wp)
section
variable {prog : Program} {w : World} {A : Around} {E : Value → Shared → Prop} {s : Shared} {z TI TO i1 i2 l1 l2 S : Addr} {xs ys : Array Value}
end
end ZT
namespace DL
open PySem PySem.Spec PyProof.Rows L2
open PySem.Sem (wp)
/-! ### several new objects at once -/
def updAll (H : Hp) : List (Addr × HO) → Hp
  | [] => H
  | (a, o) :: l => updAll (upd H a o) l
theorem updAll_ne : ∀ {l : List (Addr × HO)} {H : Hp} {b : Addr}, b ∉ l.map (·.1) → updAll H l b = H b
  | [], _, _, _ => rfl
  | (a, o) :: l, H, b, h => by
    rw [List.map_cons, List.mem_cons, not_or] at h
    show updAll (upd H a o) l b = _
    rw [updAll_ne h.2, upd_ne h.1]
theorem updAll_at : ∀ {l : List (Addr × HO)} {H : Hp} {a : Addr} {o : HO}, (l.map (·.1)).Nodup → (a, o) ∈ l → updAll H l a = some o
  | (a, o) :: l, H, b, u, nd, h => by
    rw [List.map_cons, List.nodup_cons] at nd
    show updAll (upd H a o) l b = _
    rcases List.mem_cons.mp h with h | h
    · cases h
      rw [updAll_ne nd.1, upd_same]
    · exact updAll_at nd.2 h
theorem Ext.newAll : ∀ {l : List (Addr × HO)} {F H : Hp}, Same F H → (l.map (·.1)).Nodup → (∀ p ∈ l, H p.1 = none) → Ext F H (updAll F l) (updAll H l)
  | [], _, _, s, _, _ => Ext.refl s
  | (a, o) :: l, F, H, s, nd, n => by
    rw [List.map_cons, List.nodup_cons] at nd
    have e1 : Ext F H (upd F a o) (upd H a o) := Ext.new s (n _ List.mem_cons_self)
    refine e1.trans (Ext.newAll e1.fh nd.2 fun p hp => ?_)
    have ne : p.1 ≠ a := fun q => nd.1 (List.mem_map.mpr ⟨p, hp, q⟩)
    rw [upd_ne ne]
    exact n p (List.mem_cons_of_mem _ hp)
theorem laidAll {X : Cx} {pins : List (Addr × Obj)} {σ : L2.St} {h' : Heap} {t' : Nat} : ∀ {l : List (Addr × HO)} {H : Hp} {s : Shared}, Inv X pins σ H s → (∀ b u, s.heap.get? b = some u → h'.get? b = some u) → (l.map (·.1)).Nodup → (∀ p ∈ l, s.heap.get? p.1 = none ∧ H p.1 = none) →
    (∀ p ∈ l, ∀ (G : Hp) (g : Heap), g.get? p.1 = h'.get? p.1 → ObjOk X.prog X.w G g p.1 p.2) → (∀ p ∈ l, (h'.get? p.1).isSome = true) → Inv X pins σ (updAll H l) { s with heap := h', toks := t' }
  | [], H, s, I, k, _, _, _, _ => I.kept k
  | (a, o) :: l, H, s, I, k, nd, fr, ok, is => by
    rw [List.map_cons, List.nodup_cons] at nd
    obtain ⟨G, g1, g2⟩ := restrict h' fun b => decide (b = a) || (s.heap.get? b).isSome
    have ga : G.get? a = h'.get? a := g1 a (by simp)
    have gk : ∀ b u, s.heap.get? b = some u → G.get? b = some u := fun b u e => by rw [g1 b (by rw [e]; simp)]; exact k b u e
    have gs : ∀ b u, G.get? b = some u → h'.get? b = some u := fun b u e => by
      cases q : (decide (b = a) || (s.heap.get? b).isSome) with
      | true => rw [← g1 b q]; exact e
      | false => rw [g2 b q] at e; cases e
    have I1 : Inv X pins σ (upd H a o) { s with heap := G, toks := s.toks } := I.laidN gk (fr _ List.mem_cons_self).1 (fr _ List.mem_cons_self).2 (ok _ List.mem_cons_self _ G ga)
    show Inv X pins σ (updAll (upd H a o) l) _
    refine laidAll (s := { s with heap := G, toks := s.toks }) I1 gs nd.2 (fun p hp => ?_) (fun p hp => ok p (List.mem_cons_of_mem _ hp)) fun p hp => is p (List.mem_cons_of_mem _ hp)
    have ne : p.1 ≠ a := fun q => nd.1 (List.mem_map.mpr ⟨p, hp, q⟩)
    have f := fr p (List.mem_cons_of_mem _ hp)
    exact ⟨g2 _ (by rw [f.1, decide_eq_false ne]; rfl), by rw [upd_ne ne]; exact f.2⟩
/-- the pairs of a zip -/
def prL : List Addr → List V → List V → List (Addr × HO)
  | q :: qs, x :: xs, y :: ys => (q, .tup [x, y]) :: prL qs xs ys
  | _, _, _ => []
theorem prL_keys : ∀ {qs : List Addr} {xs ys : List V}, qs.length = xs.length → xs.length = ys.length → (prL qs xs ys).map (·.1) = qs
  | [], _, _, _, _ => rfl
  | q :: qs, [], _, h, _ => nomatch h
  | q :: qs, x :: xs, [], _, h => nomatch h
  | q :: qs, x :: xs, y :: ys, h1, h2 => congrArg (q :: ·) (prL_keys (Nat.succ.inj h1) (Nat.succ.inj h2))
theorem prL_at : ∀ {qs : List Addr} {xs ys : List V} {p : Addr × HO}, p ∈ prL qs xs ys → ∃ (j : Nat) (x y : V), qs[j]? = some p.1 ∧ xs[j]? = some x ∧ ys[j]? = some y ∧ p.2 = .tup [x, y]
  | [], _, _, _, h => by cases h
  | _ :: _, [], _, _, h => by cases h
  | _ :: _, _ :: _, [], _, h => by cases h
  | q :: qs, x :: xs, y :: ys, p, h => by
    rcases List.mem_cons.mp h with h | h
    · subst h; exact ⟨0, x, y, rfl, rfl, rfl, rfl⟩
    · obtain ⟨j, x', y', e1, e2, e3, e4⟩ := prL_at h
      exact ⟨j + 1, x', y', e1, e2, e3, e4⟩
theorem reps_zip {K : PySem.W.Frag} {F : Hp} : ∀ {qs : List Addr} {xs ys : List V} {ds es : List D}, RepL K F xs ds → RepL K F ys es → qs.length = xs.length → xs.length = ys.length → (∀ p ∈ prL qs xs ys, F p.1 = some p.2) → RepL K F (qs.map V.ref) (zipL ds es)
  | [], [], [], _, _, .nil, .nil, _, _, _ => .nil
  | q :: qs, x :: xs, y :: ys, _, _, .cons r1 t1, .cons r2 t2, h1, h2, h => .cons (.tup (h _ List.mem_cons_self) (.cons r1 (.cons r2 .nil))) (reps_zip t1 t2 (Nat.succ.inj h1) (Nat.succ.inj h2) fun p hp => h p (List.mem_cons_of_mem _ hp))
section
variable {prog : Program} {w : World} {A : Around} {E : Value → Shared → Prop} {s : Shared} {z TI TO i1 i2 l1 l2 : Addr} {xs ys : Array Value}
end
section
variable {X : Cx} {c : Fc} {W : WX}
end
end DL
namespace DR
open PySem PySem.Spec PyProof.Rows L2 DL
end DR

set_option Elab.async false
set_option linter.all false
set_option maxRecDepth 100000
set_option maxHeartbeats 2000000
/-! DL49: sum and any of a tuple of whole numbers -/
namespace DL
open PySem PySem.Spec PyProof.Rows L2
open PySem.Sem (wp)
section
variable {X : Cx} {K : PySem.W.Frag}
end
end DL

set_option Elab.async false
set_option linter.all false
set_option maxRecDepth 100000
set_option maxHeartbeats 2000000
/-! DL50: own * with a whole number on the right; - of an own object -/
namespace DL
open PySem PySem.Spec PyProof.Rows L2
open PySem.Sem (wp)
section
variable {X : Cx} {k : Nat} {f C : Addr} {fd : FuncData} {ps : List Str} {sp : Sp} {E : L2.St → XK} {a b : Expr} {ta tb : TE} {pos : Pos} {r : L2.St → R2}
end
section
variable {X : Cx} {c : Fc} {W : WX} {k : Nat} {f C : Addr} {fd : FuncData} {ps : List Str} {sd : SpD} {a b : Expr} {ta tb : TD} {pos : Pos}
end
end DL
namespace DR
open PySem PySem.Spec PyProof.Rows L2 DL
section
variable {δ : DSt} {Q : DK} {E : XD}
end
end DR

set_option Elab.async false
set_option linter.all false
set_option maxRecDepth 100000
set_option maxHeartbeats 2000000
/-! DL51: list(text), slices of texts -/
namespace DL
open PySem PySem.Spec PyProof.Rows L2
theorem call_listS {X : Cx} (hc : X.calm = true) : CallR X (.type "list") (fun xs H Q => ∃ z : Str, xs = [.str z] ∧ z.length ≤ sizeLine ∧ ∀ p, H p = none → Q (.ref p) (upd H p (.lst (z.cps.toList.map fun c => V.str ⟨#[c]⟩)))) := by
  intro pins s σ H xs us Q I r h
  obtain ⟨z, rfl, hz, q⟩ := h
  obtain ⟨u, rfl, rx⟩ : ∃ u, us = [u] ∧ RelV (.str z) u := by
    cases r with
    | cons r t => cases t; exact ⟨_, rfl, r⟩
  obtain ⟨t, rfl⟩ := rx
  refine PySem.call_list_str (I.ok.hd hc) z t (hn := hz) fun h' tk acc' c' hk hS' hacc => ?_
  refine ⟨.ref s.heap.objs.size, _, I.laid (t' := tk) hk (Nat.le_refl _) (show ObjOk X.prog X.w _ h' _ (.lst _) from ⟨by rw [List.length_map, Array.length_toList]; exact hz, acc'.toList, c', ?_, by simpa using hS'⟩), rfl, q _ (I.hok.fresh (Nat.le_refl _))⟩
  refine vals_of_idx _ _ (by rw [List.length_map, Array.length_toList, Array.length_toList]; exact hacc.1) fun j u hj => ?_
  obtain ⟨c, u', hc', rfl⟩ := hacc.2 j u (by simpa using hj)
  exact ⟨.str ⟨#[c]⟩, by simp [hc'], ⟨u', rfl⟩⟩
theorem reps_signs {K : PySem.W.Frag} {F : Hp} {z : Str} (h : PyData.strOk z = true) : ∀ {l : List Nat}, (∀ c ∈ l, c ∈ z.cps.toList) → RepL K F (l.map fun c => V.str ⟨#[c]⟩) (l.map fun c => D.str ⟨#[c]⟩)
  | [], _ => .nil
  | c :: l, k => .cons (.str (strOk_one h (k c List.mem_cons_self))) (reps_signs h fun d hd => k d (List.mem_cons_of_mem _ hd))
abbrev listSN : RDN := fun ds Q => ∃ z : Str, ds = [.str z] ∧ z.length ≤ sizeLine ∧ Q (.own (.lst (z.cps.toList.map fun c => D.str ⟨#[c]⟩)))
theorem cn_listS {K : PySem.W.Frag} : CallN K (fun xs H Q => ∃ z : Str, xs = [V.str z] ∧ z.length ≤ sizeLine ∧ ∀ p, H p = none → Q (.ref p) (upd H p (.lst (z.cps.toList.map fun c => V.str ⟨#[c]⟩)))) listSN := fun xs ds F H Q Qd s r ⟨z, e1, hz, q⟩ k => by
  subst e1
  cases r with
  | cons r t =>
    cases t
    cases r with
    | str ok => exact ⟨z, rfl, hz, fun l n => k _ _ _ _ q (made_list n s (reps_signs ok fun c hc => hc))⟩
theorem slice_cps (z : Str) (lo hi : Option Int) : (Txt.slice z lo hi).cps.toList = (z.cps.toList.drop (HT.sIx z.length 0 lo)).take (HT.sIx z.length z.length hi - HT.sIx z.length 0 lo) := by
  rw [← C8.cutS_slice]
  unfold cutS
  simp
theorem slice_hi {z : Str} {n : Nat} (h : n ≤ z.length) : (Txt.slice z none (some (n : Int))).cps.toList = z.cps.toList.take n := by
  rw [slice_cps]
  have e : HT.sIx z.length z.length (some (n : Int)) = n := by unfold HT.sIx; simp; split <;> omega
  have e0 : HT.sIx z.length 0 none = 0 := rfl
  rw [e, e0]
  simp
theorem slice_lo {z : Str} {n : Nat} (h : n ≤ z.length) : (Txt.slice z (some (n : Int)) none).cps.toList = z.cps.toList.drop n := by
  rw [slice_cps]
  have e : HT.sIx z.length 0 (some (n : Int)) = n := by unfold HT.sIx; simp; split <;> omega
  have e0 : HT.sIx z.length z.length none = z.length := rfl
  rw [e, e0]
  refine List.take_of_length_le ?_
  rw [List.length_drop, Array.length_toList]
  exact Nat.le_refl _
theorem strOk_cut {z : Str} {lo hi : Option Int} (h : PyData.strOk z = true) : PyData.strOk (Txt.slice z lo hi) = true := by
  unfold PyData.strOk at *
  rw [← Array.all_toList] at *
  rw [List.all_eq_true] at *
  intro c hc
  rw [slice_cps] at hc
  exact h c (List.mem_of_mem_drop (List.mem_of_mem_take hc))
abbrev sliceTx : RDS := fun a lo hi Q => ∃ z, a = .str z ∧ z.length ≤ sizeLine ∧ Q (.d (.str (Txt.slice z lo hi)))
theorem sld_txt {K : PySem.W.Frag} : SlD K C8.rSlX sliceTx := fun x a lo hi F H Q Qd s r ⟨z, e, hz, q⟩ k => by
  subst e
  cases r with
  | str ok => exact ⟨z, rfl, hz, k _ _ F H q (made_d s (.str (strOk_cut ok)))⟩
section
variable {X : Cx} {c : Fc} {W : WX}
theorem pd_sliceS {e : Expr} {lo hi : Option Expr} {t : TD} {tl th : TDO} {p2 pos : Pos} (he : PE X e (LE X.K c W t)) (hl : PO X lo (LO X.K c W tl)) (hh : PO X hi (LO X.K c W th)) : PE X (.Subscript e (.Slice lo hi none p2) pos) (LE X.K c W (sliceD sliceTx t tl th)) := pd_sliceR C8.sl_txt sld_txt he hl hh
end
end DL

set_option Elab.async false
set_option linter.all false
set_option maxRecDepth 100000
set_option maxHeartbeats 2000000
/-! DL52: xs[::-1] of a list -/
namespace DL
open PySem PySem.Spec PyProof.Rows L2
section
variable {X : Cx} {c : Fc} {W : WX}
end
end DL
namespace DR
open PySem PySem.Spec PyProof.Rows L2 DL
section
variable {δ : DSt} {Q : DK} {E : XD}
theorem slc {rd : RDS} {t : TD} {tl th : TDO} (h : t δ (fun x δ1 => tl δ1 (fun l δ2 => th δ2 (fun h δ3 => rd x.toD l h fun z => Q z δ3) E) E) E) : sliceD rd t tl th δ Q E := h
theorem slN {Q : Option Int → DSt → Prop} (h : Q none δ) : noneO δ Q E := h
theorem slS {t : TD} {Q : Option Int → DSt → Prop} (h : t δ (fun x δ1 => ∃ i, x.toD = .int i ∧ Q (some i) δ1) E) : someO t δ Q E := h
end
end DR

set_option Elab.async false
set_option linter.all false
set_option maxRecDepth 100000
set_option maxHeartbeats 2000000
/-! DL53: xs.count(x), texts -/
namespace DL
open PySem PySem.Spec PyProof.Rows L2
section
variable {X : Cx} {c : Fc} {W : WX}
end
end DL
namespace DR
open PySem PySem.Spec PyProof.Rows L2 DL
end DR

set_option Elab.async false
set_option linter.all false
set_option maxRecDepth 100000
set_option maxHeartbeats 2000000
/-! DL54: a dict comprehension with plain keys, over data -/
namespace DL
open PySem PySem.Spec PyProof.Rows L2
def putKD (kvs : List (Key × D)) (k : Key) (d : D) : List (Key × D) :=
  if (kvs.any fun kv => decide (kv.1 = k)) = true then kvs.map (fun kv => if kv.1 = k then (kv.1, d) else kv) else kvs ++ [(k, d)]
theorem repK_any {K : PySem.W.Frag} {F : Hp} {k : Key} : ∀ {vs : List (Key × V)} {ds : List (Key × D)}, RepK K F vs ds → (vs.any fun kv => decide (kv.1 = k)) = (ds.any fun kv => decide (kv.1 = k))
  | _, _, .nil => rfl
  | _, _, .cons h t => by rw [List.any_cons, List.any_cons, repK_any t]
theorem repK_set {K : PySem.W.Frag} {F : Hp} {k : Key} {v : V} {d : D} (r : Rep K F v d) : ∀ {vs : List (Key × V)} {ds : List (Key × D)}, RepK K F vs ds → RepK K F (vs.map fun kv => if kv.1 = k then (kv.1, v) else kv) (ds.map fun kv => if kv.1 = k then (kv.1, d) else kv)
  | _, _, .nil => .nil
  | _, _, .cons (n := n) h t => by
    rw [List.map_cons, List.map_cons]
    by_cases e : n = k
    · rw [if_pos e, if_pos e]
      exact .cons r (repK_set r t)
    · rw [if_neg e, if_neg e]
      exact .cons h (repK_set r t)
theorem repK_snoc {K : PySem.W.Frag} {F : Hp} {k : Key} {v : V} {d : D} (r : Rep K F v d) : ∀ {vs : List (Key × V)} {ds : List (Key × D)}, RepK K F vs ds → RepK K F (vs ++ [(k, v)]) (ds ++ [(k, d)])
  | _, _, .nil => .cons r .nil
  | _, _, .cons h t => .cons h (repK_snoc r t)
theorem repK_put {K : PySem.W.Frag} {F : Hp} {k : Key} {v : V} {d : D} (r : Rep K F v d) {vs : List (Key × V)} {ds : List (Key × D)} (h : RepK K F vs ds) : RepK K F (putK vs k v) (putKD ds k d) := by
  unfold putK putKD
  rw [repK_any h]
  split
  · exact repK_set r h
  · exact repK_snoc r h
theorem repK_len {K : PySem.W.Frag} {F : Hp} : ∀ {vs : List (Key × V)} {ds : List (Key × D)}, RepK K F vs ds → vs.length = ds.length
  | _, _, .nil => rfl
  | _, _, .cons _ t => congrArg Nat.succ (repK_len t)
section
variable {X : Cx} {c : Fc} {W : WX}
end
end DL
namespace DR
open PySem PySem.Spec PyProof.Rows L2 DL
end DR

set_option Elab.async false
set_option linter.all false
set_option maxRecDepth 100000
/-! repr(x) of plain data: it wants that no repr is under way (guards); so such defs promise only where none is -/
namespace DL
open PySem PySem.Spec PyProof.Rows L2
/-! ### the text is made of right signs -/
theorem strOk_of {z : Str} (h : ∀ c ∈ z.cps.toList, c < 0x110000) : PyData.strOk z = true := by
  unfold PyData.strOk
  rw [Array.all_eq_true]
  intro i hi
  have := h z.cps[i] (by simp)
  simpa using this
theorem strOk_mem {z : Str} (h : PyData.strOk z = true) : ∀ c ∈ z.cps.toList, c < 0x110000 := by
  intro c hc
  unfold PyData.strOk at h
  rw [Array.all_eq_true] at h
  obtain ⟨i, hi, rfl⟩ := List.mem_iff_getElem.mp hc
  simpa using h i (by simpa using hi)
theorem char_lt (c : Char) : c.toNat < 0x110000 := by
  rcases c.valid with h | h
  · exact Nat.lt_trans h (by decide)
  · exact h.2
theorem strOk_lit (x : String) : PyData.strOk (Str.ofString x) = true := strOk_of fun c hc => by
  have e : (Str.ofString x).cps.toList = x.toList.map Char.toNat := cpsOfBytes_string x
  rw [e] at hc
  obtain ⟨d, _, rfl⟩ := List.mem_map.mp hc
  exact char_lt d
theorem sign_lt {q c : Nat} (hq : q < 0x110000) (hc : c < 0x110000) : ∀ d ∈ Builtin.Str.reprChar q c, d < 0x110000 := by
  have hx : ∀ (w : Nat), ∀ d ∈ List.replicate (w - ((Nat.toDigits 16 c).map Char.toNat).length) 48 ++ (Nat.toDigits 16 c).map Char.toNat, d < 0x110000 := fun w d hd => by
    rcases List.mem_append.mp hd with hd | hd
    · rw [(List.mem_replicate.mp hd).2]; decide
    · obtain ⟨e, _, rfl⟩ := List.mem_map.mp hd
      exact char_lt e
  intro d hd
  unfold Builtin.Str.reprChar at hd
  have two : ∀ {a b : Nat}, a < 0x110000 → b < 0x110000 → d ∈ [a, b] → d < 0x110000 := fun {a b} ha hb hm => by
    simp only [List.mem_cons, List.not_mem_nil, or_false] at hm
    rcases hm with rfl | rfl
    · exact ha
    · exact hb
  dsimp only at hd
  split at hd
  · exact two (by decide) hc hd
  split at hd
  · exact two (by decide) (by decide) hd
  split at hd
  · exact two (by decide) (by decide) hd
  split at hd
  · exact two (by decide) (by decide) hd
  split at hd
  · simp only [List.mem_cons, List.not_mem_nil, or_false] at hd
    exact hd ▸ hc
  split at hd
  · rcases List.mem_append.mp hd with hd | hd
    · exact two (by decide) (by decide) hd
    · exact hx _ _ hd
  split at hd
  · rcases List.mem_append.mp hd with hd | hd
    · exact two (by decide) (by decide) hd
    · exact hx _ _ hd
  · rcases List.mem_append.mp hd with hd | hd
    · exact two (by decide) (by decide) hd
    · exact hx _ _ hd
theorem strOk_repr {x : Str} (h : PyData.strOk x = true) : PyData.strOk (reprText x) = true := by
  have hq : reprQuote x < 0x110000 := by unfold reprQuote; split <;> decide
  have key : ∀ (l : List Nat) (acc : Array Nat), (∀ c ∈ l, c < 0x110000) → (∀ c ∈ acc.toList, c < 0x110000) →
      ∀ c ∈ (l.foldl (fun out c => out ++ (Builtin.Str.reprChar (reprQuote x) c).toArray) acc).toList, c < 0x110000 := by
    intro l
    induction l with
    | nil => exact fun acc _ h => h
    | cons a l ih =>
      intro acc h1 h2
      refine ih _ (fun c hc => h1 c (List.mem_cons_of_mem _ hc)) fun c hc => ?_
      rw [Array.toList_append] at hc
      rcases List.mem_append.mp hc with hc | hc
      · exact h2 c hc
      · exact sign_lt hq (h1 a List.mem_cons_self) c (by simpa using hc)
  refine strOk_of fun c hc => ?_
  unfold reprText at hc
  rw [Array.toList_push, ← Array.foldl_toList] at hc
  rcases List.mem_append.mp hc with hc | hc
  · exact key _ _ (strOk_mem h) (fun d hd => by simp at hd; omega) c hc
  · simp at hc; omega
theorem strOk_textFrom : ∀ (ts : List Str) (k : Nat) (acc : Str), PyData.strOk acc = true → (∀ t ∈ ts, PyData.strOk t = true) → PyData.strOk (textFrom k acc ts) = true
  | [], _, _, h, _ => h
  | t :: ts, k, acc, h, g => by
    refine strOk_textFrom ts (k + 1) _ (strOk_app (strOk_app h ?_) (g t List.mem_cons_self)) fun u hu => g u (List.mem_cons_of_mem _ hu)
    split <;> exact strOk_lit _
mutual
theorem strOk_shown : ∀ {d : PyData}, d.canLay0 = true → d.hasDict = false → PyData.strOk d.shown = true
  | .none, _, _ => strOk_lit _
  | .bool b, _, _ => by cases b <;> (simp only [PyData.shown]; exact strOk_lit _)
  | .int i, _, _ => by simp only [PyData.shown]; exact strOk_lit _
  | .str x, h, _ => by simp only [PyData.shown]; exact strOk_repr (by simpa [PyData.canLay0] using h)
  | .list xs, h, n => by
    simp only [PyData.shown, listText]
    exact strOk_app (strOk_textFrom _ _ _ (strOk_lit _) (strOk_shownAll (by simpa [PyData.canLay0] using h) (by simpa [PyData.hasDict] using n))) (strOk_lit _)
  | .tuple xs, h, n => by
    simp only [PyData.shown, tupleText]
    exact strOk_app (strOk_app (strOk_lit _) (strOk_join (strOk_lit _) (strOk_shownAll (by simpa [PyData.canLay0] using h) (by simpa [PyData.hasDict] using n)))) (strOk_lit _)
  | .dict _, _, n => by simp [PyData.hasDict] at n
theorem strOk_shownAll : ∀ {ds : List PyData}, PyData.canLayAll0 ds = true → PyData.hasDictAll ds = false → ∀ t ∈ PyData.shownAll ds, PyData.strOk t = true
  | [], _, _, t, ht => by simp [PyData.shownAll] at ht
  | d :: ds, h, n, t, ht => by
    simp only [PyData.canLayAll0, Bool.and_eq_true] at h
    simp only [PyData.hasDictAll, Bool.or_eq_false_iff] at n
    simp only [PyData.shownAll, List.mem_cons] at ht
    rcases ht with rfl | ht
    · exact strOk_shown h.1 n.1
    · exact strOk_shownAll h.2 n.2 t ht
end
mutual
theorem noDict : ∀ {d : D}, d.isPy = true → d.py.hasDict = false
  | .non, _ => rfl
  | .bl _, _ => rfl
  | .int _, _ => rfl
  | .str _, _ => rfl
  | .lst xs, h => by simp only [D.py, PyData.hasDict]; exact noDictL h
  | .ro xs, h => by simp only [D.py, PyData.hasDict]; exact noDictL h
  | .tup xs, h => by simp only [D.py, PyData.hasDict]; exact noDictL h
  | .rot xs, h => by simp only [D.py, PyData.hasDict]; exact noDictL h
  | .ty _, h => by cases h
  | .adr _, h => by cases h
  | .obj _ _, h => by cases h
  | .dT _, h => by cases h
  | .dK _, h => by cases h
  | .exc _ _ _ _ _, h => by cases h
  | .gho _ _, h => by cases h
theorem noDictL : ∀ {ds : List D}, isPyL ds = true → PyData.hasDictAll (pyL ds) = false
  | [], _ => rfl
  | d :: ds, h => by
    simp only [isPyL, Bool.and_eq_true] at h
    simp only [pyL, PyData.hasDictAll, noDict h.1, noDictL h.2, Bool.or_self]
end
/-! ### how long the text is at most -/
mutual
def shW : PyData → Nat
  | .none => 4
  | .bool _ => 5
  | .int i => (Str.ofString (toString i)).length
  | .str x => 10 * x.length + 2
  | .list xs => shWs xs + 2
  | .tuple xs => shWs xs + 3
  | .dict _ => 0
def shWs : List PyData → Nat
  | [] => 0
  | d :: ds => shW d + 2 + shWs ds
end
def sumW (ts : List Str) : Nat := ts.foldr (fun t n => t.length + 2 + n) 0
theorem textFrom_le : ∀ (ts : List Str) (k : Nat) (acc : Str), (textFrom k acc ts).length ≤ acc.length + sumW ts
  | [], _, _ => Nat.le_refl _
  | t :: ts, k, acc => by
    have ih := textFrom_le ts (k + 1) (acc ++ (if k > 0 then ", " else "" : String) ++ t)
    have e : (acc ++ (if k > 0 then ", " else "" : String) ++ t).length ≤ acc.length + 2 + t.length := by
      rw [strLen_append, strLen_append]
      have : ((if k > 0 then ", " else "" : String) : Str).length ≤ 2 := by split <;> decide
      omega
    have e2 : sumW (t :: ts) = t.length + 2 + sumW ts := rfl
    show (textFrom (k + 1) (acc ++ (if k > 0 then ", " else "" : String) ++ t) ts).length ≤ _
    omega
theorem join_le : ∀ (ts : List Str), (Str.join ", " ts).length ≤ sumW ts
  | [] => Nat.zero_le _
  | [x] => by show x.length ≤ x.length + 2 + 0; omega
  | x :: y :: r => by
    have ih := join_le (y :: r)
    show (x ++ ", " ++ Str.join ", " (y :: r)).length ≤ x.length + 2 + sumW (y :: r)
    rw [strLen_append, strLen_append, show ((", " : String) : Str).length = 2 from rfl]
    omega
mutual
theorem shown_le : ∀ {d : PyData}, d.canLay0 = true → d.hasDict = false → d.shown.length ≤ shW d
  | .none, _, _ => by simp only [PyData.shown, shW]; decide
  | .bool b, _, _ => by cases b <;> (simp only [PyData.shown, shW]; decide)
  | .int i, _, _ => by simp only [PyData.shown, shW]; exact Nat.le_refl _
  | .str x, h, _ => by
    simp only [PyData.shown, shW]
    exact PySem.StrLaws.reprText_len x fun c hc => Nat.lt_trans (strOk_mem (by simpa [PyData.canLay0] using h) c hc) (by decide)
  | .list xs, h, n => by
    simp only [PyData.shown, shW, listText]
    have := textFrom_le (PyData.shownAll xs) 0 "["
    have h2 := shown_leAll (by simpa [PyData.canLay0] using h) (by simpa [PyData.hasDict] using n)
    rw [strLen_append, show (("]" : String) : Str).length = 1 from rfl]
    rw [show (("[" : String) : Str).length = 1 from rfl] at this
    omega
  | .tuple xs, h, n => by
    simp only [PyData.shown, shW, tupleText]
    have := join_le (PyData.shownAll xs)
    have h2 := shown_leAll (by simpa [PyData.canLay0] using h) (by simpa [PyData.hasDict] using n)
    have h3 : ((if (PyData.shownAll xs).length == 1 then ",)" else ")" : String) : Str).length ≤ 2 := by split <;> decide
    rw [strLen_append, strLen_append, show (("(" : String) : Str).length = 1 from rfl]
    omega
  | .dict _, _, n => by simp [PyData.hasDict] at n
theorem shown_leAll : ∀ {ds : List PyData}, PyData.canLayAll0 ds = true → PyData.hasDictAll ds = false → sumW (PyData.shownAll ds) ≤ shWs ds
  | [], _, _ => by simp only [PyData.shownAll, shWs]; exact Nat.le_refl _
  | d :: ds, h, n => by
    simp only [PyData.canLayAll0, Bool.and_eq_true] at h
    simp only [PyData.hasDictAll, Bool.or_eq_false_iff] at n
    have h1 := shown_le h.1 n.1
    have h2 := shown_leAll h.2 n.2
    simp only [PyData.shownAll, shWs]
    show d.shown.length + 2 + sumW (PyData.shownAll ds) ≤ _
    omega
end
end DL

set_option Elab.async false
set_option linter.all false
set_option maxRecDepth 100000
/-! repr(x), and defs that promise where no repr is under way -/
namespace DL
open PySem PySem.Spec PyProof.Rows L2
section
variable {X : Cx}
end
section
variable {X : Cx} {c : Fc} {W : WX}
end
/-! ### a def's promise where no repr is under way -/
section
variable {P : Program} {w : World} {K : PySem.W.Frag} {mg : Str → Option Value} {base : Heap}
end
/-! ### its call -/
section
variable {X : Cx} {c : Fc} {W : WX} {k : Nat} {f : Addr} {fd : FuncData} {ps : List Str} {sd : SpD} {x : Str} {p pos : Pos} {e : Expr} {es : List Expr} {ta : TDA}
end
end DL

set_option Elab.async false
set_option linter.all false
set_option maxRecDepth 100000
/-! the end of a law whose def promises where no repr is under way -/
namespace DL
open PySem PySem.Spec PyProof.Rows L2
end DL
namespace DL
open PySem PySem.Spec PyProof.Rows L2
end DL

set_option Elab.async false
set_option linter.all false
set_option maxRecDepth 100000
/-! one or the other reading of an expression -/
namespace DL
open PySem PySem.Spec PyProof.Rows L2
end DL
namespace DL
open PySem PySem.Spec PyProof.Rows L2
end DL

set_option Elab.async false
set_option linter.all false
set_option maxRecDepth 100000
/-! text * int -/
namespace DL
open PySem PySem.Spec PyProof.Rows L2
end DL
namespace DL
open PySem PySem.Spec PyProof.Rows L2
/-! the text of an int: how long it is -/
end DL
namespace DL
open PySem PySem.Spec PyProof.Rows L2
/-! int of a bool -/
abbrev intBS : RDNs := fun ds Q => ∃ b : Bool, ds = [.bl b] ∧ Q (.int (if b then 1 else 0))
theorem cn_intB {K : PySem.W.Frag} : CallNs K (fun xs H Q => (∃ i, xs = [V.int i] ∧ Q (.int i) H) ∨ ∃ k, xs = [V.bl k] ∧ Q (.int (if k then 1 else 0)) H) intBS := fun xs ds F H Q Qd s r ⟨b, e1, q⟩ k => by
  subst e1
  cases r with
  | cons r t => cases t; cases r; exact .inr ⟨b, rfl, k _ _ q rfl⟩
end DL

set_option Elab.async false
set_option linter.all false
set_option maxRecDepth 100000
set_option maxHeartbeats 2000000
/-! DL60: a tuple whose object is known to have no dict (.rot): xs.count(x) of texts; tuple(list) laid so; tuple(rot), for over it -/
namespace DL
open PySem PySem.Spec PyProof.Rows L2
section
variable {X : Cx} {c : Fc} {W : WX}
end
/-! ### tuple(list), laid with its object; tuple(rot); for over a rot -/
section
variable {X : Cx} {c : Fc} {W : WX}
end
end DL
namespace DR
open PySem PySem.Spec PyProof.Rows L2 DL
end DR

set_option Elab.async false
set_option linter.all false
set_option maxRecDepth 100000
set_option maxHeartbeats 2000000
/-! DL61: rules for a tuple whose object is known (.rot): in, len(set(..)) of texts, a tuple + a rot -/
namespace DL
open PySem PySem.Spec PyProof.Rows L2
section
variable {X : Cx} {c : Fc} {W : WX}
end
end DL
namespace DR
open PySem PySem.Spec PyProof.Rows L2 DL
end DR

set_option Elab.async false
set_option linter.all false
set_option maxRecDepth 100000
set_option maxHeartbeats 2000000
/-! DL62: an own dict by plain keys (read, write, in), name -= number -/
namespace DL
open PySem PySem.Spec PyProof.Rows L2
theorem repK_some {K : PySem.W.Frag} {F : Hp} {k : Key} : ∀ {vs : List (Key × V)} {ds : List (Key × D)}, RepK K F vs ds → (valV vs k).isSome = (valK ds k).isSome
  | _, _, .nil => rfl
  | _, _, .cons (n := n) (v := v) (d := d) (vs := vs) (ds := ds) h t => by
    by_cases e : n = k
    · have e1 : valK ((n, d) :: ds) k = some d := by simp [valK, List.find?_cons, e]
      rw [e1, valV_pos (p := (n, v)) e]
      rfl
    · have e1 : valK ((n, d) :: ds) k = valK ds k := by simp [valK, List.find?_cons, e]
      rw [e1, valV_neg (p := (n, v)) e]
      exact repK_some t
section
variable {X : Cx} {c : Fc} {W : WX}
def newDK : TD := fun δ Q _ => Q (.own (.dK [])) δ
theorem pd_newDK {e : Expr} (h : PE X e tDNewK) : PE X e (LE X.K c W newDK) := PE_imp h fun σ H Q ⟨δ, tmp, Qd, Ed, ⟨F, ow, S⟩, q, k, w⟩ => fun p n =>
  k _ _ _ _ q ⟨F, _, S.pushNew (o := .dK []) n ⟨[], upd_same, .nil⟩⟩
def putKS (j : Nat) (te ti : TD) : TDS := fun D δ => te δ (fun v δ1 => (∃ o, δ1[j]? = some (some (.own o))) ∧ ti δ1 (fun k δ2 => ∃ kvs ks, δ2[j]? = some (some (.own (.dK kvs))) ∧ k.toD = keyOne ks ∧ kvs.length < sizeLine ∧ D.nx (δ2.set j (some (.own (.dK (putKD kvs ks v.toD)))))) D.ex) D.ex
theorem psd_putK {j : Nat} {x : Str} {i e : Expr} {te ti : TD} {A : Prop} {pos pos' px : Pos} (hu : A) (h : ∀ {to ti tv : TE}, PE X (.Name x px) to → PE X i ti → PE X e tv → PS X (.Assign [.Subscript (.Name x px) i pos'] e pos) (sDPut to ti tv)) (hv : PE X (.Name x px) (tVar j)) (he : PE X e (LE X.K c W te)) (hi : PE X i (LE X.K c W ti)) :
    PS X (.Assign [.Subscript (.Name x px) i pos'] e pos) (LS X.K c W (putKS j te ti)) :=
  PS_imp (h hv hi he) fun D σ H ⟨δ, tmp, Dd, S, q, k, kr, kb, kc, w⟩ => ⟨δ, tmp, _, _, S, q, fun u y δ1 H1 ⟨⟨o, eo⟩, q1⟩ ⟨F1, ow1, S1⟩ => by
    obtain ⟨F2, S2, _⟩ := S1.top_frz
    obtain ⟨v, e1, p, rfl, _⟩ := S2.sl _ _ eo
    refine ⟨_, e1, δ1, _, _, _, ⟨F2, ow1, S2⟩, q1, fun t z δ2 H2 ⟨kvs, ks, ej, ek, hl, q2⟩ ⟨F3, ow3, S3⟩ => ?_, w.push⟩
    obtain ⟨F4, S4, _⟩ := S3.top_frz
    rw [ek] at S4
    obtain rfl := key_one S4.top
    obtain ⟨v', e2, p', rfl, _, _, _, vs, ep, r⟩ := S4.sl _ _ ej
    rw [e1] at e2
    cases e2
    refine ⟨p, _, rfl, DPut.k ep (by rw [repK_len r]; exact hl), k _ _ _ q2 ⟨F4, ow3, ?_⟩⟩
    exact (S4.pop.write (o' := .dK (putKD kvs ks y.toD)) ej e1 ⟨_, upd_same, repK_put S4.pop.top r⟩).pop, w⟩
theorem dget_k {K : PySem.W.Frag} {F H : Hp} {p : Addr} {ks : Key} {vs : List (Key × V)} {ds : List (Key × D)} (r : RepK K F vs ds) (ep : Rd H p (.dK vs)) : ∃ o, DGet H p (kV ks) o ∧ o.isSome = (valK ds ks).isSome :=
  ⟨_, .inl ⟨vs, ks, ep, rfl, rfl⟩, repK_some r⟩
/-- a dict that changes no more -/
def inKF (n : Bool) (ti td : TD) : TD := fun δ Q E => ti δ (fun k δ1 => td δ1 (fun o δ2 => ∃ kvs ks, o.toD = .dK kvs ∧ k.toD = keyOne ks ∧ Q (.d (.bl (n != (valK kvs ks).isSome))) δ2) E) E
theorem inKF_run {K : PySem.W.Frag} {n : Bool} {ti td : TD} {f : Bool → Bool} (hf : ∀ b, f b = (n != b)) : ∀ σ H Q, LE K c W (inKF n ti td) σ H Q → (LE K c W ti) σ H fun y H1 => (LE K c W td) σ H1 fun x H2 => ∃ a o, x = .ref a ∧ DGet H2 a y o ∧ Q (.bl (f o.isSome)) H2 := fun σ H Q ⟨δ, tmp, Qd, Ed, S, q, k, w⟩ =>
  ⟨δ, tmp, _, Ed, S, q, fun u y δ1 H1 q1 S1 => ⟨δ1, _, _, Ed, S1, q1, fun t o δ2 H2 ⟨kvs, ks, eo, ek, q2⟩ ⟨F2, ow2, S2⟩ => by
    obtain ⟨F3, S3, _⟩ := S2.top_frz2
    rw [eo, ek] at S3
    obtain rfl := key_one S3.pop.top
    have r0 := S3.top
    cases r0 with
    | dK s r =>
      obtain ⟨ov, g, eov⟩ := dget_k (ks := ks) r (rd_mono S3.fh s)
      exact ⟨_, ov, rfl, g, k _ _ _ _ (by rw [hf, eov]; exact q2) ⟨F3, ow2, S3.pop.pop.push (.bl _)⟩⟩, w.push⟩, w⟩
theorem ptd_inKF_f {i o : Expr} {ti td : TD} {pos : Pos} (h : ∀ {ty td : TE}, PE X i ty → PE X o td → PT X (.Compare i [.NotIn] [o] pos) (tB (tDNotIn ty td))) (hi : PE X i (LE X.K c W ti)) (ho : PE X o (LE X.K c W td)) : PT X (.Compare i [.NotIn] [o] pos) (LT X.K c W (tvD (inKF true ti td))) :=
  PT_imp (h hi ho) fun σ H Q ⟨δ, tmp, Qd, Ed, S, q, k, w⟩ => inKF_run (n := true) (ti := ti) (td := td) (f := fun b => !b) (fun b => by cases b <;> rfl) σ H (fun v H1 => ∃ b, v = .bl b ∧ Q b H1) ⟨δ, tmp, (fun x δ1 => ∃ b, x = .d (.bl b) ∧ Qd b δ1), Ed, S, q, fun v x δ' H' ⟨b, e, q'⟩ ⟨F, ow, S'⟩ => by
    subst e
    cases S'.top
    exact ⟨b, rfl, k _ _ _ q' ⟨F, ow, S'.pop⟩⟩, w⟩
/-! ### name -= number -/
def augD (f : Int → Int → Int) (i : Nat) (te : TD) : TDS := fun D δ => ∃ a : Int, δ[i]? = some (some (.d (.int a))) ∧ te δ (fun y δ1 => ∃ b : Int, y = .d (.int b) ∧ D.nx (δ1.set i (some (.d (.int (f a b)))))) D.ex
theorem psd_aug {f : Int → Int → Int} {i : Nat} {x : Str} {e : Expr} {t : TD} {op : Operator} {ti : TIp} {pos pos' : Pos} (hti : ∀ (a b : Int) H Q, Q (.int (f a b)) H → ti (.int a) (.int b) H Q) (ni : i ∉ c.sl) (h : ∀ {te : TE}, PE X e te → PS X (.AugAssign (.Name x pos') op e pos) (tAug i te ti)) (he : PE X e (LE X.K c W t)) :
    PS X (.AugAssign (.Name x pos') op e pos) (LS X.K c W (augD f i t)) :=
  PS_imp (h he) fun D σ H ⟨δ, tmp, Dd, S, ⟨a, ea, q⟩, k, kr, kb, kc, w⟩ => by
    obtain ⟨F, ow, S0⟩ := S
    obtain ⟨v, e1, r⟩ := S0.sl _ _ ea
    obtain rfl : v = .int a := by cases (show Rep X.K F v (.int a) from r); rfl
    refine ⟨_, e1, δ, tmp, _, _, ⟨F, ow, S0⟩, q, fun u y δ1 H1 ⟨b, eb, q1⟩ ⟨F1, ow1, S1⟩ => ?_, w⟩
    subst eb
    obtain rfl : u = .int b := by cases (show Rep X.K F1 u (.int b) from S1.top); rfl
    exact hti _ _ _ _ (k _ _ _ q1 ((S1.pop.push (.int (f a b))).set' ni))
end
end DL
namespace DR
open PySem PySem.Spec PyProof.Rows L2 DL
section
variable {δ : DSt} {Q : DK} {E : XD} {D : EndsD}
theorem newDK (h : Q (.own (.dK [])) δ) : DL.newDK δ Q E := h
theorem putK {j : Nat} {te ti : TD} (h : te δ (fun v δ1 => (∃ o, δ1[j]? = some (some (.own o))) ∧ ti δ1 (fun k δ2 => ∃ kvs ks, δ2[j]? = some (some (.own (.dK kvs))) ∧ k.toD = keyOne ks ∧ kvs.length < sizeLine ∧ D.nx (δ2.set j (some (.own (.dK (putKD kvs ks v.toD)))))) D.ex) D.ex) : putKS j te ti D δ := h
theorem inKF {n : Bool} {ti td : TD} (h : ti δ (fun k δ1 => td δ1 (fun o δ2 => ∃ kvs ks, o.toD = .dK kvs ∧ k.toD = keyOne ks ∧ Q (.d (.bl (n != (valK kvs ks).isSome))) δ2) E) E) : DL.inKF n ti td δ Q E := h
theorem aug {f : Int → Int → Int} {i : Nat} {te : TD} {a : Int} (e : δ[i]? = some (some (.d (.int a)))) (h : te δ (fun y δ1 => ∃ b : Int, y = .d (.int b) ∧ D.nx (δ1.set i (some (.d (.int (f a b)))))) D.ex) : augD f i te D δ := ⟨a, e, h⟩
end
end DR

set_option Elab.async false
set_option linter.all false
set_option maxRecDepth 100000
set_option maxHeartbeats 2000000
/-! DL63: objects of the body's own: made without arguments, their methods, iteration, len -/
namespace DL
open PySem PySem.Spec PyProof.Rows L2
section
variable {X : Cx} {k : Nat} {f C : Addr} {fd : FuncData} {ps : List Str} {sd : SpD} {x m : Str} {p pos apos : Pos}
theorem pe_makeS0 {CX : CXT} {sp : Sp} {E : L2.St → XK} (M : Mk X.K C f) (G : FnOk X.prog X.w X.K X.mg X.base CX k f fd ps sp) (room : Room (k + 1) X.A) (hg : Gl X x) (hm : X.mg x = some (.ref C)) (bd : Binds X.K fd ps []) (hx : ∀ σ, PassesAt CX X σ (E σ))
    (hdb : (x == ("__debug__" : Str)) = false := by decide) : PE X (.Call (.Name x p) [] [] pos) (tMakeS C sp E tNil) :=
  ⟨fun pins s σ H Q I h => wpAny_Call_Name_kw (ld_glob I hg hm (PySem.W.callWith_K0 I.kIn M.kp (run_makeS (us := []) M G room bd (hx σ) I .nil h)) hdb)⟩
end
section
variable {X : Cx} {c : Fc} {W : WX} {k : Nat} {f C : Addr} {fd : FuncData} {ps : List Str} {sd : SpD} {x m : Str} {p pos apos : Pos} {e : Expr} {es : List Expr} {ta : TDA}
/-- C(): the body's own object, which may change -/
def makeOD (C : Addr) (sd : SpD) : TD := fun δ Q _ => sd [.own (.ins C [])] (fun r os => r = .d .non ∧ ∃ o, os = [o] ∧ Q (.own o) δ) (fun _ _ => False)
theorem pd_makeO0 (M : Mk X.K C f) (G : FnOk X.prog X.w X.K X.mg X.base (L2.CX X.prog X.w) k f fd ps (spOf X.K sd)) (room : Room (k + 1) X.A) (hg : Gl X x) (hm : X.mg x = some (.ref C)) (bd : Binds X.K fd ps []) (tk : Takes X W)
    (hdb : (x == ("__debug__" : Str)) = false := by decide) : PE X (.Call (.Name x p) [] [] pos) (LE X.K c W (makeOD C sd)) :=
  PE_imp (pe_makeS0 (E := WE W) M G room hg hm bd (fun σ => passAt tk σ) hdb) fun σ H Q ⟨δ, tmp, Qd, Ed, ⟨F, ow, S⟩, q, kk, w⟩ => fun x dx nx ndx ne => by
    have s2 : Same H (upd (upd H dx (.own x)) x (.ins C dx [])) := same_upd (same_upd (Same.refl H) ndx) (by rw [upd_ne ne.symm]; exact nx)
    have Fx : F x = none := S.fh.free nx
    refine ⟨F, _, [x], _, _, S.fh.trans s2, .own Fx (show OwnRep X.K F _ x (.ins C []) from ⟨dx, [], upd_same, .nil⟩) (fun z => nomatch z) .nil, q, fun v r os F' H' ⟨e1, o, e2, q2⟩ P rr => ?_, fun _ _ _ _ _ _ z _ _ => z.elim⟩
    subst e1 e2
    refine ⟨by cases rr; rfl, kk _ _ _ _ q2 ?_⟩
    cases P.os with
    | cons n r t =>
      have hfr : ∀ a u, H a = some u → a ∉ ([] : List Addr) → H' a = some u := fun a u e _ => by
        have na : a ∉ [x] := fun z => by
          rw [List.mem_singleton] at z
          rw [z, nx] at e
          cases e
        exact P.fr a u (s2 _ _ e) na
      have P' : Post X.K F H [] [] F' H' := ⟨P.f, P.fh, hfr, fun a z => s2.free (P.up a z), fun a z => (P.nw a z).imp id fun z => s2.free z, OwnsRep.nil⟩
      exact ret_push (x := .own o) (is := []) S rfl (fun k i p e => by simp at e) List.nodup_nil P' ⟨x, rfl, nx, n, r⟩
/-- o.m(..), o the own object at a slot, of the class at C -/
def methOD (j : Nat) (C : Addr) (m : Str) (sd : SpD) (ta : TDA) : TD := fun δ Q E => (∃ fs, δ[j]? = some (some (.own (.ins C fs))) ∧ fs.lookup m = none) ∧ ta δ (fun as δ2 => ∃ xs fs, δ2[j]? = some (some (.own (.ins C fs))) ∧ argsOf δ2 as xs ∧ (j :: slotsOf as).Nodup ∧
  sd (.own (.ins C fs) :: xs) (fun r os => Q r (putBack δ2 (j :: slotsOf as) os)) (fun x os => E x (putBack δ2 (j :: slotsOf as) os))) E
theorem pd_methOS {pl : Sem Bool} {j : Nat} {y : Str} {py : Pos} (he : PE X (.Name y py) (tVar j)) (cl : Cls X.K C) (hm : Meth X.K C m f) (G : FnOk X.prog X.w X.K X.mg X.base (L2.CX X.prog X.w) k f fd ps (spOf X.K sd)) (hr : Room k X.A) (hb : Binds X.K fd ps []) (tk : Takes X W) (ha : PA X (e :: es) (LA X.K c W ta))
    (hst : starEach (e :: es) X.env = (false, eval e X.env) :: starEach es X.env := by rfl) (hpl : (backTo pos (starEach es X.env)).any (·.1) = false := by rfl)
    (ht : eval (.Call (.Attribute (.Name y py) m apos) (e :: es) [] pos) X.env = (do
      let ov ← eval (.Name y py) X.env
      standAt apos.atName
      let (f, first) ← holding [ov] (getMethod ov m pl)
      callWith pos f first (backTo pos (starEach (e :: es) X.env)) (backToKw pos (keywordEach [] X.env))) := by rfl) :
    PE X (.Call (.Attribute (.Name y py) m apos) (e :: es) [] pos) (LE X.K c W (methOD j C m sd ta)) :=
  PE_imp (pe_methX (E := WE W) he cl hm G hr hb (fun σ => passAt tk σ) ha hst hpl ht) fun σ H Q ⟨δ, tmp, Qd, Ed, ⟨F, ow, S⟩, ⟨⟨fs, ei, nl⟩, t⟩, kk, w⟩ => by
    obtain ⟨v, e1, p, rfl, _, _, _, dx, vs, ep, rf⟩ := S.sl _ _ ei
    exact ⟨_, e1, p, dx, vs, rfl, ep, (RepF.lookup rf).1 nl, δ, tmp, _, Ed, ⟨F, ow, S⟩, t, fun ws as δ2 F2 ow2 H2 ⟨xs, fs2, ei2, ea, nd, sp⟩ S2 ra => lift_sp S2 (as := .o j :: as) (.o e1 ra) ⟨_, _, ei2, rfl, ea⟩ nd sp kk w, w⟩
/-- an own object whose field fld is a tuple, walked -/
def ownIO (j : Nat) (C : Addr) (fld : Str) : TDI := fun δ Q _ => ∃ fs xs, δ[j]? = some (some (.own (.ins C fs))) ∧ fs.lookup fld = some (.tup xs) ∧ Q xs δ
theorem pid_ownO {tg : Expr} {j : Nat} {y qual fld : Str} {py : Pos} {st : Stmt} (T : IterOf X.K C f qual fld st fd) (hm : X.mg "iter" = none) (hr : Room (k + 2) X.A) (hv : PE X (.Name y py) (tVar j)) : PI X tg (.Name y py) (LI X.K c W (ownIO j C fld)) :=
  PI_imp (pi_own (tg := tg) T hm hr hv) fun σ H R ⟨δ, tmp, Qd, Ed, ⟨F, ow, S⟩, ⟨fs, xs, ei, el, q⟩, kk, w⟩ => by
    obtain ⟨v, e1, p, rfl, _, _, _, dx, vs, ep, rf⟩ := S.sl _ _ ei
    obtain ⟨u, e2, ru⟩ := (RepF.lookup rf).2 _ el
    have S3 := S.push ru
    cases ru with
    | @tup p2 vs2 _ s2 r2 => exact ⟨_, e1, p, dx, vs, p2, vs2, rfl, ep, e2, SqT.of (S.fh _ _ s2), kk _ _ _ xs _ _ q serve_tup ⟨F, ow, S3⟩⟩
/-! len of an own object by its class's own __len__ -/
structure LenOf (K : PySem.W.Frag) (C f : Addr) : Prop where
  at_ : PySem.W.findIn K (.ref C) "__len__" = some (some (.ref f))
  fn : PySem.W.isFn K (.ref f) = true
def rLenC (C : Addr) (sp : Sp) : List V → Hp → VK → Prop := fun xs G Q => ∃ p d us, xs = [.ref p] ∧ G p = some (.ins C d us) ∧ sp [.ref p] G (fun z G2 => ∃ n : Nat, z = .int n ∧ n ≤ sizeLine ∧ Q (.int n) G2) (fun _ _ _ => False)
theorem call_lenC {sp : Sp} (N : LenOf X.K C f) (F : FnOk X.prog X.w X.K X.mg X.base (L2.CX X.prog X.w) k f fd ps sp) (room : Room (k + 1) X.A) (bd : Binds X.K fd ps []) : CallR X (.builtin "len") (rLenC C sp) := by
  rintro pins t τ G xs us Q I r ⟨p, d, fs, rfl, hp, h⟩
  obtain ⟨u, rfl, ru⟩ := r.one
  obtain rfl : u = Value.ref p := ru
  obtain ⟨_, O, _⟩ := ins_get I.hok hp
  obtain ⟨_, J, _⟩ := O.look
  obtain ⟨m, fr⟩ := I.fr
  have rr : Vals [V.ref p] [Value.ref p] := .cons rfl .nil
  have hl : [Value.ref p].length = ps.length := by rw [← rr.length]; exact F.len _ _ _ _ h
  have b' := bd t [Value.ref p] I.kIn (by rw [List.append_nil]; exact hl)
  rw [List.append_nil] at b'
  refine PySem.W.len_K fr I.ok.mod.kin J N.at_ N.fn ?_
  refine wpAny_call (codeAny_mono (F.run X.A.in1 X.stack t G ⟨[Value.ref p], []⟩ _ _ _ _ room.in1 I.env0.in1 b' rr h) fun fin t2 z => ?_)
  cases fin with
  | error e => exact passAt (W := W0) takes0 τ pins _ _ e t2 I z
  | ok fl =>
    cases fl with
    | ret w =>
      obtain ⟨y, G2, J3, ry, n, ey, hn, q2⟩ := I.after z
      subst ey
      obtain ⟨tk, rfl⟩ := ry
      refine ⟨⟨Int.natCast_nonneg _, ?_⟩, .int n, G2, J3.tok _, ⟨_, rfl⟩, q2⟩
      have : (n : Int) ≤ (sizeLine : Nat) := Int.ofNat_le.mpr hn
      rw [sizeLine_eq] at this
      omega
    | next => exact z.elim
    | brk => exact z.elim
    | cont => exact z.elim
def lenOD (j : Nat) (C : Addr) (sd : SpD) : TD := fun δ Q _ => ∃ fs, δ[j]? = some (some (.own (.ins C fs))) ∧ sd [.own (.ins C fs)] (fun r os => ∃ n : Nat, r = .d (.int n) ∧ n ≤ sizeLine ∧ Q (.d (.int n)) (putBack δ [j] os)) (fun _ _ => False)
theorem pd_lenO {j : Nat} {y : Str} {py : Pos} {cp : Pos} (N : LenOf X.K C f) (G : FnOk X.prog X.w X.K X.mg X.base (L2.CX X.prog X.w) k f fd ps (spOf X.K sd)) (hr : Room (k + 1) X.A) (hb : Binds X.K fd ps []) (hg : Gl X "len") (hm : X.mg "len" = none) (hv : PE X (.Name y py) (tVar j))
    (hs : starEach [.Name y py] X.env = (false, eval (.Name y py) X.env) :: starEach [] X.env := by rfl) : PE X (.Call (.Name "len" cp) [.Name y py] [] pos) (LE X.K c W (lenOD j C sd)) :=
  PE_imp (pe_callB (call_lenC N G hr hb) hg hm (by decide +kernel) (pa_cons hv pa_nil hs)) fun σ H Q ⟨δ, tmp, Qd, Ed, ⟨F, ow, S⟩, ⟨fs, ei, q⟩, kk, w⟩ => by
    obtain ⟨v, e1, p, rfl, _, hF, hN, dx, vs, ep, rf⟩ := S.sl _ _ ei
    have ra : RepArgs X.K F σ [V.ref p] [.o j] := .o e1 .nil
    obtain ⟨qs, ar, hl, hs2⟩ := args_rep S ra ⟨_, _, ei, rfl, rfl⟩ (by simp [slotsOf])
    refine ⟨_, e1, p, dx, vs, rfl, ep, F, _, qs, _, _, S.fh, ar, q, fun v r os F' H' ⟨n, er, hn, q2⟩ P rr => ?_, fun _ _ _ _ _ _ z _ _ => z.elim⟩
    subst er
    cases (show Rep X.K F' v (.int n) from rr)
    exact ⟨n, rfl, hn, kk _ _ _ _ q2 ⟨F', ow, (S.called hl hs2 (by simp [slotsOf]) P).push (.int _)⟩⟩
end
end DL
namespace DR
open PySem PySem.Spec PyProof.Rows L2 DL
section
variable {δ : DSt} {Q : DK} {E : XD}
theorem makeO {C : Addr} {sd : SpD} (h : sd [.own (.ins C [])] (fun r os => r = .d .non ∧ ∃ o, os = [o] ∧ Q (.own o) δ) (fun _ _ => False)) : makeOD C sd δ Q E := h
theorem methO {j : Nat} {C : Addr} {m : Str} {sd : SpD} {ta : TDA} {fs : List (Str × DL.D)} (e : δ[j]? = some (some (.own (.ins C fs)))) (n : fs.lookup m = none) (h : ta δ (fun as δ2 => ∃ xs fs, δ2[j]? = some (some (.own (.ins C fs))) ∧ argsOf δ2 as xs ∧ (j :: slotsOf as).Nodup ∧
  sd (.own (.ins C fs) :: xs) (fun r os => Q r (putBack δ2 (j :: slotsOf as) os)) (fun x os => E x (putBack δ2 (j :: slotsOf as) os))) E) : methOD j C m sd ta δ Q E := ⟨⟨fs, e, n⟩, h⟩
theorem owniO {j : Nat} {C : Addr} {fld : Str} {Q : List DL.D → DSt → Prop} {fs : List (Str × DL.D)} {xs : List DL.D} (e : δ[j]? = some (some (.own (.ins C fs)))) (l : fs.lookup fld = some (.tup xs)) (h : Q xs δ) : ownIO j C fld δ Q E := ⟨fs, xs, e, l, h⟩
theorem lenO {j : Nat} {C : Addr} {sd : SpD} {fs : List (Str × DL.D)} (e : δ[j]? = some (some (.own (.ins C fs)))) (h : sd [.own (.ins C fs)] (fun r os => ∃ n : Nat, r = .d (.int n) ∧ n ≤ sizeLine ∧ Q (.d (.int n)) (putBack δ [j] os)) (fun _ _ => False)) : lenOD j C sd δ Q E := ⟨fs, e, h⟩
end
end DR

set_option Elab.async false
set_option linter.all false
set_option maxRecDepth 100000
set_option maxHeartbeats 2000000
/-! DL64: sorted(xs, key=f), f an own def whose answer is a pair of whole numbers; f's calls keep what is held (not each object to the letter) -/
namespace SKI
open PySem PySem.Calls PySem.Spec PyProof.Rows PySem.W L2
abbrev encP (k : Int × Int) : PyData := .tuple [.int k.1, .int k.2]
def KeyAt (H : Hp) (v : Value) (k : Int × Int) : Prop := ∃ p, v = .ref p ∧ H p = some (.tup [.int k.1, .int k.2])
theorem KeyAt.mono {H H' : Hp} {v : Value} {k : Int × Int} (s : Same H H') (q : KeyAt H v k) : KeyAt H' v k := let ⟨p, e, h⟩ := q; ⟨p, e, s _ _ h⟩
theorem KeyAt.reads {P : Program} {w : World} {H : Hp} {h : Heap} {v : Value} {k : Int × Int} (hok : HOk P w H h) (q : KeyAt H v k) : Reads h v (encP k) [] := by
  obtain ⟨p, rfl, e⟩ := q
  obtain ⟨_, its, rv, o, hob, hc, n, hd⟩ := hok _ _ e
  cases rv with
  | cons r1 t =>
    cases t with
    | cons r2 t2 =>
      cases t2
      obtain ⟨t1, rfl⟩ := r1
      obtain ⟨t2, rfl⟩ := r2
      exact .tuple hob hc hd (.cons (.int _ _) (.cons (.int _ _) .nil))
section
variable {X : Cx} {pins : List (Addr × Obj)} {σ : L2.St} {H : Hp} {s : Shared} {a kS f : Addr} {us : List Value} {kys : List (Int × Int)} {e1 : Nat}
abbrev pinK (kS a : Addr) (kA : Array Value) (e e1 : Nat) (pins : List (Addr × Obj)) : List (Addr × Obj) := (kS, seqObj "list" kA e) :: (a, seqObj "list" #[] e1) :: pins
/-- the key's call at an item -/
def TurnI (X : Cx) (σ : L2.St) (H : Hp) (A : Around) (f : Addr) (u : Value) (k : Int × Int) : Prop := ∀ (pins' : List (Addr × Obj)) (s' : Shared) (H' : Hp), Inv X pins' σ H' s' → Same H H' →
  wpAny (model X.prog X.w) A (call (.ref f) [u]) (fun r s2 => ∃ H2, Inv X pins' σ H2 s2 ∧ Same H' H2 ∧ KeyAt H2 r k) (fun _ _ => False) s'
theorem data_seq {T : String} {xs : Array Value} {n : Nat} : ∀ v, (seqObj T xs n).data ≠ .cell v := fun v z => by cases z
/-- the last step: both lists are written -/
theorem fin_inv {kA : Array Value} {e c : Nat} {tk : Nat} {out : List Value} {outV : List V} {h3 : Heap} {s' : Shared} {H' : Hp} (fa : FpOk X pins H a) (fk : FpOk X pins H kS) (hne : kS ≠ a) (I : Inv X (pinK kS a kA e e1 pins) σ H' s')
    (keep : ∀ b o, b ≠ a → b ≠ kS → s'.heap.get? b = some o → h3.get? b = some o) (ha : h3.get? a = some (seqObj "list" out.toArray c)) (rv : Vals outV out) (hz : outV.length ≤ sizeLine) :
    Inv X pins σ (upd H' a (.lst outV)) { s' with heap := h3, toks := tk } := by
  have pk := I.pin (kS, seqObj "list" kA e) (List.mem_append_right _ List.mem_cons_self)
  have pa := I.pin (a, seqObj "list" #[] e1) (List.mem_append_right _ (List.mem_cons_of_mem _ List.mem_cons_self))
  have I0 : Inv X pins σ H' s' := I.pins_of fun p hp => I.pin p (List.mem_append_right _ (List.mem_cons_of_mem _ (List.mem_cons_of_mem _ hp)))
  have na : ∀ b u, H' b = some u → b ≠ a := fun b u e z => by rw [z, pa.2.1] at e; cases e
  have nk : ∀ b u, H' b = some u → b ≠ kS := fun b u e z => by rw [z, pk.2.1] at e; cases e
  have inc : ∀ b, b ∉ [a, kS] → b ≠ a ∧ b ≠ kS := fun b hb => ⟨fun z => hb (by simp [z]), fun z => hb (by simp [z])⟩
  have up : ∀ b u, H' b = some u → upd H' a (.lst outV) b = some u := fun b u e => by rw [upd_ne (na b u e)]; exact e
  refine I0.step (g' := s'.gens) (d' := s'.drawn) (ch := [a, kS]) (fun b hb => ?_) (fun b o _ _ hc e _ => keep b o (inc b hc).1 (inc b hc).2 e) (fun b o _ _ hc e _ => ⟨o.slots, keep b o (inc b hc).1 (inc b hc).2 e⟩) (fun b o hc e n => by rw [upd_ne (inc b hc).1]; exact n)
    (fun b o hc e => ⟨o, keep b o (inc b hc).1 (inc b hc).2 e⟩) (fun b xs e => up _ _ e) (fun b o u e => up _ _ e) (fun b ps e => ⟨#[], by rw [up _ _ e]; simp⟩) (fun m hm => ?_) (fun b u e => ?_) I0.bare
  · rcases List.mem_cons.mp hb with z | z
    · subst z
      exact ⟨fa.2.2.2.1, fa.2.1, fa.2.2.2.2.1, fa.2.2.2.2.2⟩
    · rw [List.mem_singleton] at z
      subst z
      exact ⟨fk.2.2.2.1, fk.2.1, fk.2.2.2.2.1, fk.2.2.2.2.2⟩
  · obtain ⟨o, es, ep, hob, r⟩ := hm
    exact ⟨o, es, ep, keep _ o fa.2.1.symm fk.2.1.symm hob, r⟩
  · by_cases z : b = a
    · subst z
      rw [upd_same] at e
      cases e
      exact ⟨hz, out, c, rv, ha⟩
    · rw [upd_ne z] at e
      refine (I0.hok b u e).stay (fun x v hc q => ?_) (fun x q => up _ _ q) fun x xs q => up _ _ q
      rcases hc with y | y
      · rw [y] at q ⊢
        exact keep _ v z (nk b u e) q
      · exact keep x v (na x _ y) (nk x _ y) q
theorem rest {P : PySem.Fin → Shared → Prop} {A : Around} {E : Value → Shared → Prop} (fa : FpOk X pins H a) (fk : FpOk X pins H kS) (hne : kS ≠ a) (I : Inv X (pinK kS a #[] 0 e1 pins) σ H s) (hlen : kys.length = us.length) (hlim : us.length ≤ sizeLine) (hu : A.units + 1 < cLine)
    (turn : ∀ (i : Nat) (u : Value) (k : Int × Int), us[i]? = some u → kys[i]? = some k → TurnI X σ H A f u k)
    (h : ∀ s' H' kA e h3 tk c out, Inv X (pinK kS a kA e e1 pins) σ H' s' → Same H H' → (∀ b o, b ≠ a → b ≠ kS → s'.heap.get? b = some o → h3.get? b = some o) → h3.get? a = some (seqObj "list" (List.toArray out) c) → KeyedOut false (kys.map encP) us out → P (.done (.ret .none)) { s' with heap := h3, toks := tk }) :
    wpAny (model X.prog X.w) A (ksk_rest a (.ref f) false us.toArray e1 (.ref kS)) P E s := by
  unfold ksk_rest
  refine wpAny_bind (wpAny_rule ?_)
  rw [List.forIn_toArray]
  refine wpAny_bind (ksk_fold (fun i s' => ∃ kA e H', Inv X (pinK kS a kA e e1 pins) σ H' s' ∧ Same H H' ∧ EachIs (KeyAt H') kA.toList (kys.take i)) us 0 s ⟨#[], 0, H, I, Same.refl H, by rw [List.take_zero]; exact .nil⟩ ?step ?done)
  case step =>
    rintro j x s' hx ⟨kA, e, H', I1, sm, hks⟩
    simp only [Nat.zero_add] at hks ⊢
    have hj : j < us.length := (List.getElem?_eq_some_iff.mp hx).1
    obtain ⟨k, hkz⟩ : ∃ k, kys[j]? = some k := ⟨_, List.getElem?_eq_getElem (by omega)⟩
    have hz : kA.size ≤ us.length := by
      have hq1 := hks.length
      rw [Array.length_toList, List.length_take] at hq1
      omega
    refine wpAny_bind (wpAny_attempt (wpAny_mono (turn j x k hx hkz _ s' H' I1 sm) (fun r s2 he => ?_) fun _ _ hF => hF.elim))
    obtain ⟨H2, I2, sm2, kr⟩ := he
    try dsimp only
    have pk := I2.pin (kS, seqObj "list" kA e) (List.mem_append_right _ List.mem_cons_self)
    have pa := I2.pin (a, seqObj "list" #[] e1) (List.mem_append_right _ (List.mem_cons_of_mem _ List.mem_cons_self))
    have s1 := Heap.SameBut.update s2.heap kS (Obj.mapSeq (·.push r))
    obtain ⟨c2, hc2⟩ : ∃ c2, (s2.heap.update kS (Obj.mapSeq (·.push r))).get? kS = some (seqObj "list" (kA.push r) c2) := ⟨_, get?_update_seq pk.1 (·.push r)⟩
    refine wpAny_bind (listUpdate_at pk.1 rfl ?_ (Nat.le_trans hz hlim) (Nat.le_trans (Nat.le_of_eq (Array.size_push ..)) (Nat.succ_le_succ (Nat.le_trans hz hlim))))
    have I3 : Inv X ((a, seqObj "list" #[] e1) :: pins) σ H2 s2 := I2.pins_of fun p hp => I2.pin p (List.mem_append_right _ (List.mem_cons_of_mem _ hp))
    have I4 : Inv X ((a, seqObj "list" #[] e1) :: pins) σ H2 { s2 with heap := s2.heap.update kS (Obj.mapSeq (·.push r)), toks := s2.toks } := I3.turned (it := kS) (fun b o hb q => (s1.2 b hb).trans q) pk.2.1 fk.2.1 fk.2.2.2.1 fk.2.2.2.2.1 (fun p hp => by
      rcases List.mem_append.mp hp with z | z
      · exact fk.2.2.2.2.2 p (List.mem_append_left _ z)
      · rcases List.mem_cons.mp z with z | z
        · subst z; exact hne.symm
        · exact fk.2.2.2.2.2 p (List.mem_append_right _ z))
    have I5 : Inv X (pinK kS a (kA.push r) c2 e1 pins) σ H2 { s2 with heap := s2.heap.update kS (Obj.mapSeq (·.push r)), toks := s2.toks } := I4.pins_of fun p hp => by
      rcases List.mem_cons.mp hp with z | z
      · subst z; exact ⟨hc2, pk.2.1, fk.2.1, fk.2.2.1, data_seq⟩
      · exact I4.pin p (List.mem_append_right _ z)
    refine wpAny_pure ⟨rfl, kA.push r, c2, H2, I5, sm.trans sm2, ?_⟩
    have etk : kys.take (j + 1) = kys.take j ++ [k] := by rw [List.take_add_one, hkz]; simp
    have ea : (kA.push r).toList = kA.toList ++ [r] := by simp
    rw [ea, etk]
    exact each_snoc kr (hks.mono fun u d q => q.mono sm2)
  case done =>
    rintro s' ⟨kA, e, H', I1, sm, hks⟩
    have pk := I1.pin (kS, seqObj "list" kA e) (List.mem_append_right _ List.mem_cons_self)
    have pa := I1.pin (a, seqObj "list" #[] e1) (List.mem_append_right _ (List.mem_cons_of_mem _ List.mem_cons_self))
    have e3 : kys.take (0 + us.length) = kys := List.take_of_length_le (by omega)
    rw [e3] at hks
    have hsz : kA.size = us.length := by
      have hq1 := hks.length
      rw [Array.length_toList] at hq1
      omega
    have hks' : EachIs (fun v (k : Int × Int) => ∃ as, Reads s'.heap v (encP k) as) kA.toList kys := hks.mono fun v k q => ⟨[], q.reads I1.hok⟩
    have hk2 : EachIs (fun v k => ∃ as, Reads s'.heap v k as) kA.toList (kys.map encP) := each_map (R := fun v k => ∃ as, Reads s'.heap v k as) encP hks'
    have hal : AllAlike (kys.map encP) := AllAlike.of fun _ _ => by simp [alike, alikeAll, encP]
    have hsk : Sortable (kys.map encP) := Sortable.tuples fun _ => ⟨_, _, rfl⟩
    have hu' : ∀ d, d ∈ kys.map encP → A.units + d.depth < cLine := fun d hd => by
      obtain ⟨k, _, rfl⟩ := List.mem_map.mp hd
      have : (encP k).depth = 1 := by simp [encP, PyData.depth, PyData.depthAll]
      omega
    obtain ⟨G, g1, g2⟩ := restrict s'.heap (fun b => b != kS)
    have kp : KeepsBut a G s'.heap := fun b o hb q => by
      by_cases z : b = kS
      · rw [g2 b (by simp [z])] at q; cases q
      · rw [g1 b (by simp [z])] at q; exact q
    refine wpAny_bind (listItems_at pk.1 rfl ?_)
    refine keyH_end (κ := dataKind s'.heap (kys.map encP)) (h₁ := G) kp (g2 kS (by simp)) pk.1 pa.1 hne (SortsAt.data (s := s') hk2 hal hsk hu') hsz hlim fun h3 tk3 c k3 n3 => ?_
    refine h s' H' kA e h3 tk3 c _ I1 sm (fun b o hb hbk q => k3 b o hb (by rw [g1 b (by simp [hbk])]; exact q)) n3 ⟨s'.heap, kA.toList, hal, rfl, hk2⟩
/-- sorted(l, key=f) -/
theorem sorted_inv {Q : Value → Shared → Prop} {A : Around} {E : Value → Shared → Prop} {l : Addr} {vs : List V} (I : Inv X pins σ H s) (rv : Vals vs us) (hl : s.heap.IsList l us.toArray) (hlen : kys.length = us.length) (hlim : us.length ≤ sizeLine) (hu : A.units + 3 < cLine)
    (turn : ∀ (i : Nat) (u : Value) (k : Int × Int), us[i]? = some u → kys[i]? = some k → TurnI X σ H A.in1.in1 f u k)
    (h : ∀ s2 H2 a out, Same H H2 → H2 a = none → KeyedOut false (kys.map encP) us out → (∀ outV, Vals outV out → outV.length = vs.length → Inv X pins σ (upd H2 a (.lst outV)) s2) → Q (.ref a) s2) :
    wpAny (model X.prog X.w) A (call (.builtin "sorted") [.ref l] [(Str.ofString "key", .ref f)]) Q E s := by
  refine sorted_of_sort hl hlim (ksk_s1 _ _) (fun _ => ksk_l1 _ _) fun E' => ?_
  rw [ksk_t1]
  generalize hg : s.heap.objs.size + 1 = a
  have hob : (copyHeap s.heap us).get? a = some (seqObj "list" us.toArray 0) := by subst hg; exact copyHeap_at s.heap us
  have la : s.heap.objs.size ≤ a := by omega
  have kC : ∀ b o, s.heap.get? b = some o → (copyHeap s.heap us).get? b = some o := fun b o q => copyHeap_old q
  have ha : a < (copyHeap s.heap us).objs.size := Heap.lt_size hob
  obtain ⟨e1, hob1⟩ : ∃ e1, ((copyHeap s.heap us).update a (Obj.mapSeq fun _ => (#[] : Array Value))).get? a = some (seqObj "list" #[] e1) := ⟨_, get?_update_seq hob fun _ => #[]⟩
  have hkS : (((copyHeap s.heap us).update a (Obj.mapSeq fun _ => (#[] : Array Value))).push (seqObj "tuple" us.toArray 0)).objs.size = (copyHeap s.heap us).objs.size + 1 := by rw [size_push', Heap.size_update]
  unfold ksk_tree
  refine wpAny_bind (listItems_at hob rfl ?_)
  refine wpAny_bind (listUpdate_at hob rfl ?_ (by rw [List.size_toArray]; exact hlim) (Nat.zero_le _))
  refine wpAny_bind (seqEpoch_at hob1 rfl ?_)
  refine wpAny_bind (wpAny_newTuple ?_ (by show us.length ≤ _; exact hlim))
  refine wpAny_bind (wpAny_newList ?_ (Nat.zero_le _))
  refine wpAny_holding ?_
  generalize hK : (((copyHeap s.heap us).update a (Obj.mapSeq fun _ => (#[] : Array Value))).push (seqObj "tuple" us.toArray 0)).objs.size = kS at *
  have nek : kS ≠ a := by omega
  have lk : s.heap.objs.size ≤ kS := by omega
  have kp : ∀ b o, s.heap.get? b = some o → (sortingHeap (copyHeap s.heap us) a us).get? b = some o := fun b o q => sortingHeap_old (Nat.ne_of_lt (Nat.lt_of_lt_of_le (Heap.lt_size q) la)) (kC b o q)
  have I1 : Inv X pins σ H { s with heap := sortingHeap (copyHeap s.heap us) a us, toks := s.toks } := I.kept kp
  have fa : FpOk X pins H a := I.fpOk la (I.hok.fresh la)
  have fk : FpOk X pins H kS := I.fpOk lk (I.hok.fresh lk)
  have ga : (sortingHeap (copyHeap s.heap us) a us).get? a = some (seqObj "list" #[] e1) := Heap.get?_push_of_some _ (Heap.get?_push_of_some _ hob1)
  have gk : (sortingHeap (copyHeap s.heap us) a us).get? kS = some (seqObj "list" #[] 0) := by rw [← hK]; exact Heap.get?_push_size _ rfl
  have I2 : Inv X (pinK kS a #[] 0 e1 pins) σ H { s with heap := sortingHeap (copyHeap s.heap us) a us, toks := s.toks } := I1.pins_of fun p hp => by
    rcases List.mem_cons.mp hp with z | z
    · subst z; exact ⟨gk, fk.1, fk.2.1, fk.2.2.1, data_seq⟩
    · rcases List.mem_cons.mp z with z | z
      · subst z; exact ⟨ga, fa.1, fa.2.1, fa.2.2.1, data_seq⟩
      · exact I1.pin p (List.mem_append_right _ z)
  refine rest (s := { s with heap := sortingHeap (copyHeap s.heap us) a us, toks := s.toks }) fa fk nek I2 hlen hlim (by show A.units + 2 + 1 < cLine; omega) turn fun s' H' kA e h3 tk c out I3 sm keep n3 ko => ⟨rfl, ?_⟩
  have pa := I3.pin (a, seqObj "list" #[] e1) (List.mem_append_right _ (List.mem_cons_of_mem _ List.mem_cons_self))
  refine h _ H' a out sm pa.2.1 ko fun outV ro hlo => fin_inv fa fk nek I3 keep n3 ro (by rw [hlo, rv.length]; exact hlim)
end
end SKI

set_option Elab.async false
set_option linter.all false
set_option maxRecDepth 100000
set_option maxHeartbeats 2000000
/-! DL65: sorted(xs, key=f) over data -/
namespace DL
open PySem PySem.Spec PyProof.Rows L2
abbrev le2 {β : Type} (k : β → Int × Int) : β → β → Bool := fun p q => decide ((k p).1 < (k q).1 ∨ ((k p).1 = (k q).1 ∧ (k p).2 ≤ (k q).2))
def rSortK (f : Addr) (sp : Sp) (K : PySem.W.Frag) : List V → List V → Hp → VK → Prop := fun xs zs H Q => ∃ (l : Addr) (bs : List (V × D)) (k : V × D → Int × Int), xs = [.ref l] ∧ zs = [.ref f] ∧ SqL K H l (bs.map Prod.fst) ∧
  (∀ b ∈ bs, ∀ H', Same H H' → sp [b.1] H' (fun r H2 => Same H' H2 ∧ ∃ p, r = .ref p ∧ H2 p = some (.tup [.int (k b).1, .int (k b).2])) (fun _ _ _ => False)) ∧
  ∀ H2 a, Same H H2 → H2 a = none → Q (.ref a) (upd H2 a (.lst ((bs.mergeSort (le2 k)).map Prod.fst)))
section
variable {X : Cx} {k : Nat} {f : Addr} {fd : FuncData} {ps : List Str} {sp : Sp}
theorem vals_each {bs : List (V × D)} : ∀ {us : List Value}, Vals (bs.map Prod.fst) us → PySem.W.EachIs (fun u (b : V × D) => RelV b.1 u) us bs := by
  induction bs with
  | nil => intro us r; cases r; exact .nil
  | cons b bs ih =>
    intro us r
    cases r with
    | cons h t => exact .cons h (ih t)
theorem each_vals {bs : List (V × D)} : ∀ {us : List Value}, PySem.W.EachIs (fun u (b : V × D) => RelV b.1 u) us bs → Vals (bs.map Prod.fst) us := by
  induction bs with
  | nil => intro us r; cases r; exact .nil
  | cons b bs ih =>
    intro us r
    cases r with
    | cons h t => exact .cons h (ih t)
theorem each_at {bs : List (V × D)} : ∀ {us : List Value} {i : Nat} {u : Value}, PySem.W.EachIs (fun u (b : V × D) => RelV b.1 u) us bs → us[i]? = some u → ∃ b, bs[i]? = some b ∧ RelV b.1 u := by
  induction bs with
  | nil => intro us i u r e; cases r; cases e
  | cons b bs ih =>
    intro us i u r e
    cases r with
    | cons h t =>
      cases i with
      | zero => cases e; exact ⟨b, rfl, h⟩
      | succ i => exact ih t e
theorem cr_sortK (G : FnOk X.prog X.w X.K X.mg X.base (L2.CX X.prog X.w) k f fd ps sp) (room : Room (k + 2) X.A) (bd : Binds X.K fd ps []) : CallRK X (.builtin "sorted") [Str.ofString "key"] (rSortK f sp X.K) := by
  intro pins s σ H vs zs us ws Q I r rz h
  obtain ⟨l, bs, ky, rfl, rfl, hs, ht, q⟩ := h
  obtain rfl := Vals.ref1 r
  obtain ⟨w1, rfl, e1⟩ := vals1 rz
  obtain rfl : w1 = Value.ref f := e1
  obtain ⟨its, rv, pl, hz⟩ := I.list hs
  have ev := vals_each rv
  have hlen := rv.length
  rw [List.length_map] at hlen hz
  refine SKI.sorted_inv (kys := bs.map ky) I rv pl.isList (by rw [List.length_map]; exact hlen) (by rw [← hlen]; exact hz) (by have := room.units; omega) (fun i u kk hu hk => ?_) fun s2 H2 a out sm na ko mk => ?_
  · intro pins' s' H' I' sm
    obtain ⟨b, hb, rb⟩ := each_at ev hu
    rw [List.getElem?_map, hb] at hk
    cases hk
    have h0 := ht b (List.mem_of_getElem? hb) H' sm
    have rr : Vals [b.1] [u] := .cons rb .nil
    have hl : [u].length = ps.length := by rw [← rr.length]; exact G.len _ _ _ _ h0
    have b' := bd s' [u] I'.kIn (by rw [List.append_nil]; exact hl)
    rw [List.append_nil] at b'
    have r2 : Room (k + 1 + 1) X.A := room
    refine wpAny_call (codeAny_mono (G.run X.A.in1.in1 X.stack s' H' ⟨[u], []⟩ _ _ _ _ r2.in1.in1 I'.env0.in1.in1 b' rr h0) fun fin t2 z => ?_)
    cases fin with
    | error e => obtain ⟨_, _, _, _, _, _, _, _, _, _, _, _, hE⟩ := z; exact hE.elim
    | ok fl =>
      cases fl with
      | ret w =>
        obtain ⟨y, G2, J3, ry, sm2, p, ey, hp⟩ := I'.after z
        subst ey
        obtain rfl : w = Value.ref p := ry
        exact ⟨G2, J3, sm2, p, rfl, hp⟩
      | next => exact z.elim
      | brk => exact z.elim
      | cont => exact z.elim
  · have e2 : (bs.map ky).map SKI.encP = bs.map (fun b => SKI.encP (ky b)) := by rw [List.map_map]; rfl
    rw [e2] at ko
    have eo := PySem.W.keyedOut_each (fun b => SKI.encP (ky b)) ko ev
    rw [PySem.W.dataLe_ii (β := V × D) (fun b => (ky b).1) (fun b => (ky b).2)] at eo
    exact ⟨.ref a, _, mk _ (each_vals eo) (by rw [List.length_map, List.length_mergeSort, List.length_map]), rfl, q H2 a sm na⟩
end
section
variable {K : PySem.W.Frag} {F : Hp}
theorem repL_zip : ∀ {vs : List V} {ds : List D}, RepL K F vs ds → ∃ bs : List (V × D), bs.map Prod.fst = vs ∧ bs.map Prod.snd = ds ∧ ∀ b ∈ bs, Rep K F b.1 b.2
  | _, _, .nil => ⟨[], rfl, rfl, fun b h => nomatch h⟩
  | _, _, .cons (v := v) (d := d) h t => by
    obtain ⟨bs, e1, e2, hb⟩ := repL_zip t
    exact ⟨(v, d) :: bs, by rw [List.map_cons, e1], by rw [List.map_cons, e2], fun b q => (List.mem_cons.mp q).elim (fun z => by subst z; exact h) (hb b)⟩
theorem repL_maps : ∀ {bs : List (V × D)}, (∀ b ∈ bs, Rep K F b.1 b.2) → RepL K F (bs.map Prod.fst) (bs.map Prod.snd)
  | [], _ => .nil
  | b :: bs, h => .cons (h b List.mem_cons_self) (repL_maps fun b q => h b (List.mem_cons_of_mem _ q))
end
section
variable {X : Cx} {c : Fc} {W : WX} {k : Nat} {f : Addr} {fd : FuncData} {ps : List Str} {sd : SpD}
/-- sorted(xs, key=f): xs a list; what f tells of an item d is the pair ky d -/
def sortKD (sd : SpD) (to : TD) : TD := fun δ Q E => to δ (fun x δ1 => ∃ (xs : List D) (ky : D → Int × Int), x.toD = .lst xs ∧ (∀ d ∈ xs, sd [.d d] (fun r _ => r = .d (.tup [.int (ky d).1, .int (ky d).2])) (fun _ _ => False)) ∧ Q (.own (.lst (xs.mergeSort (le2 ky)))) δ1) E
theorem pd_sortK {e : Expr} {y : Str} {to : TD} {p py pk pos : Pos} (G : FnOk X.prog X.w X.K X.mg X.base (L2.CX X.prog X.w) k f fd ps (spOf X.K sd)) (room : Room (k + 2) X.A) (hg : Gl X "sorted") (hm : X.mg "sorted" = none) (hgy : Gl X y) (hmy : X.mg y = some (.ref f)) (hy : (y == ("__debug__" : Str)) = false) (bd : Binds X.K fd ps []) (he : PE X e (LE X.K c W to))
    (hs : backTo pos (starEach [e] X.env) = (false, eval e X.env) :: backTo pos (starEach [] X.env)) (hpl : (backTo pos (starEach [e] X.env)).any (·.1) = false)
    (hall : (backToKw pos (keywordEach [⟨some "key", .Name y py, pk⟩] X.env)).all (·.1.isSome) = true) (hnone : (backToKw pos (keywordEach [⟨some "key", .Name y py, pk⟩] X.env)).any (·.1.isNone) = false) (hks : (backToKw pos (keywordEach [⟨some "key", .Name y py, pk⟩] X.env)).filterMap (·.1) = [Str.ofString "key"]) (hse : starEach [e] X.env = (false, eval e X.env) :: starEach [] X.env := by rfl) :
    PE X (.Call (.Name "sorted" p) [e] [⟨some "key", .Name y py, pk⟩] pos) (LE X.K c W (sortKD sd to)) :=
  PE_imp (pe_callBK (cr_sortK G room bd) hg hm (by decide +kernel) (pa_cons he pa_nil hse) (pk_cons (pe_glob (v := .ref f) hgy hmy rfl hy) pk_nil) (by decide) (by decide) hs hpl hall hnone hks) fun σ H Q ⟨δ, tmp, Qd, Ed, S, q, kk, w⟩ => by
    refine ⟨δ, tmp, _, Ed, S, q, fun v x δ1 H1 ⟨xs, ky, ex, hk, q1⟩ ⟨F1, ow1, S1⟩ => ?_, w⟩
    obtain ⟨F2, S2, _⟩ := S1.top_frz
    rw [ex] at S2
    have r0 := S2.top
    cases r0 with
    | @lst l vs _ s1 r =>
      obtain ⟨bs, e1, e2, hb⟩ := repL_zip r
      refine ⟨l, bs, fun b => ky b.2, rfl, rfl, by rw [e1]; exact .inl (.inl (S2.fh _ _ s1)), fun b hbm H' sm => ?_, fun H2 a sm na => ?_⟩
      · have hd : b.2 ∈ xs := by rw [← e2]; exact List.mem_map.mpr ⟨b, hbm, rfl⟩
        refine ⟨F2, _, [], _, _, S2.fh.trans sm, .d (hb b hbm) .nil, hk b.2 hd, fun v r os F' H'' er P rr => ?_, fun _ _ _ _ _ _ z _ _ => z.elim⟩
        subst er
        have rr' : Rep X.K F' v (.tup [.int (ky b.2).1, .int (ky b.2).2]) := rr
        refine ⟨fun a o e => P.fr a o e (fun z => nomatch z), ?_⟩
        cases rr' with
        | @tup p vs2 _ s2 r2 =>
          cases r2 with
          | cons h1 t1 =>
            cases t1 with
            | cons h2 t2 =>
              cases t2; cases h1; cases h2
              exact ⟨p, rfl, P.fh _ _ s2⟩
      · have em : (bs.mergeSort (le2 fun b => ky b.2)).map Prod.snd = xs.mergeSort (le2 ky) := by
          rw [← e2]
          exact List.map_mergeSort fun _ _ _ _ => rfl
        have S3 : SttF X.K c F2 ow1 δ1 tmp σ H2 := S2.pop.ext ⟨Same.refl _, sm, S2.fh.trans sm, fun _ z => .inl z⟩
        refine kk _ _ _ _ q1 ⟨F2, _, S3.pushNew (o := .lst (xs.mergeSort (le2 ky))) na ⟨_, upd_same, ?_⟩⟩
        rw [← em]
        exact repL_maps fun b hq => hb b (List.mem_mergeSort.mp hq)
end
end DL
namespace DR
open PySem PySem.Spec PyProof.Rows L2 DL
theorem sortK {δ : DSt} {Q : DK} {E : XD} {sd : SpD} {to : TD} (h : to δ (fun x δ1 => ∃ (xs : List DL.D) (ky : DL.D → Int × Int), x.toD = .lst xs ∧ (∀ d ∈ xs, sd [.d d] (fun r _ => r = .d (.tup [.int (ky d).1, .int (ky d).2])) (fun _ _ => False)) ∧ Q (.own (.lst (xs.mergeSort (le2 ky)))) δ1) E) : sortKD sd to δ Q E := h
end DR

set_option Elab.async false
set_option linter.all false
set_option maxRecDepth 100000
set_option maxHeartbeats 2000000
/-! DL66: tuple(d.items()), d a dict by plain keys -/
namespace DL
open PySem PySem.Spec PyProof.Rows L2
section
variable {prog : Program} {w : World} {KT : Type} [DecidableEq KT] {knd : PySem.KeyKind prog w KT} {A : Around} {E : Value → Shared → Prop} {s : Shared} {r d : Addr} {kvs : List (KT × Value)} {ep : Nat}
theorem code_tuple_items {Q₁ : Value → Shared → Prop} (hA : A.handled = none) (hv : s.heap.IsItemsView r d) (hm : s.heap.DictAt knd d kvs ep) (hn : kvs.length ≤ sizeLine)
    (h : ∀ (h' : Heap) (tk : Nat) (as : List Addr), (∀ b o, s.heap.get? b = some o → h'.get? b = some o) → as.length = kvs.length → PySem.W.KdxG knd kvs s.heap.objs.size h' as → Q₁ (.ref h'.objs.size) { s with heap := h'.push { cls := .type "tuple", data := .seq (as.map Value.ref).toArray }, toks := tk }) :
    codeAny (model prog w) A (.call (.builtin "tuple.__new__") ⟨[.type "tuple", .ref r], []⟩) (wants Q₁ E) s := by
  refine codeAny_of_tree ?_
  show wpAny _ A.in1 (do checkBuiltinCall "tuple.__new__" ⟨[.type "tuple", .ref r], []⟩; again (.builtin "tuple.__new__" ⟨[.type "tuple", .ref r], []⟩)) _ _ s
  refine wpAny_bind (wpAny_of_eq (F.newCall_tuple_1 _) (wpAny_pure ⟨plainId_quiet F.plain_tuple_new _, codeAny_builtin F.entry_tuple_new ?_⟩))
  rw [Around.under_plainId F.plain_tuple_new _]
  have hsub := sub_tuple_self
  have hinit := init_tuple_lookup
  have hmh := madeHere_tuple
  obtain ⟨ov, hov, hcv, _⟩ := id hv
  have hTI : s.TypeIs (.ref r) "dict_items" := ⟨ov, hov, hcv⟩
  wp_walk using wpAny_typeOf hTI, PySem.W.kdx_collect (A := A.in1) hA hv hm hn
  intro h' tk as hk hl hG
  show wpAny _ _ (Builtin.Tuple.tupleExact (as.map Value.ref).toArray >>= fun v => ret v) _ _ _
  unfold Builtin.Tuple.tupleExact
  refine wpAny_bind (wpAny_newObj_type ?_ (by show (as.map Value.ref).toArray.size ≤ sizeLine; rw [List.size_toArray, List.length_map, hl]; exact hn))
  exact wpAny_pure (h h' tk as hk hl hG)
theorem call_tuple_items {Q : Value → Shared → Prop} (hA : A.handled = none) (hv : s.heap.IsItemsView r d) (hm : s.heap.DictAt knd d kvs ep) (hn : kvs.length ≤ sizeLine)
    (hQ : ∀ (h' : Heap) (tk : Nat) (as : List Addr), (∀ b o, s.heap.get? b = some o → h'.get? b = some o) → as.length = kvs.length → PySem.W.KdxG knd kvs s.heap.objs.size h' as → Q (.ref h'.objs.size) { s with heap := h'.push { cls := .type "tuple", data := .seq (as.map Value.ref).toArray }, toks := tk }) :
    wpAny (model prog w) A (call (.type "tuple") [.ref r]) Q E s := by
  refine callType_codes (Q₁ := fun obj s₁ => s₁.TypeIs obj "tuple" ∧ Q obj s₁) F.called_tuple (F.typeCall_tuple_1 _) F.entry_object_init
    (code_tuple_items (A := A.in1) hA hv hm hn fun h' tk as hk hl hG => ⟨⟨_, Heap.get?_push_size _ rfl, rfl⟩, hQ h' tk as hk hl hG⟩) fun obj s₁ h₁ => ?_
  exact ⟨h₁.1, F.args_object_init_2 obj _, object_init_meets F.called_tuple.init.lookup F.called_tuple.made (by decide) prog w A.in1 _ s₁ ⟨h₁.1, rfl, h₁.2⟩⟩
end
abbrev keysV (kvs : List (Key × V)) : List V := kvs.map fun kv => kV kv.1
abbrev valsV (kvs : List (Key × V)) : List V := kvs.map fun kv => kv.2
def tTupItems (te : TE) : TE := fun σ H Q => te σ H fun x H1 => ∃ (d : Addr) (kvs : List (Key × V)), x = .ref d ∧ Rd H1 d (.dK kvs) ∧
  ∀ (qs : List Addr) (p : Addr), qs.length = kvs.length → qs.Nodup → (∀ q ∈ qs, H1 q = none) → updAll H1 (prL qs (keysV kvs) (valsV kvs)) p = none → Q (.ref p) (upd (updAll H1 (prL qs (keysV kvs) (valsV kvs))) p (.tup (qs.map .ref)))
theorem pe_tupItems {X : Cx} {e : Expr} {te : TE} {p apos cpos pos : Pos} (hc : X.calm = true) (he : PE X e te) (hg : Gl X "tuple") (hm : X.mg "tuple" = none) (hbase : attributeBase e "items" X.env (eval e X.env) = eval e X.env := by rfl) (hline : (apos.endLine == cpos.line) = true := by rfl)
    (hs : starEach [.Call (.Attribute e "items" apos) [] [] cpos] X.env = (false, eval (.Call (.Attribute e "items" apos) [] [] cpos) X.env) :: starEach [] X.env := by rfl) :
    PE X (.Call (.Name "tuple" p) [.Call (.Attribute e "items" apos) [] [] cpos] [] pos) (tTupItems te) := by
  refine ⟨fun pins s σ H Q I hq => Call_ (ld_blt I hg hm PyProof.Rows.boot_tuple (PyProof.Rows.callWith_type1 ?_ hs rfl))⟩
  rw [hs]
  show wpAny _ _ (spliced ((false, eval (.Call (.Attribute e "items" apos) [] [] cpos) X.env) :: backTo pos (starEach [] X.env))) _ _ s
  refine Calls.spliced_cons ?_
  refine wpAny_Call_method (T := "dict") (id := "dict.items") hbase rfl hline F.plainAttrs_dict F.slot_dict_items F.type_dict_items (thn (he.run pins s σ H _ I hq) fun u s1 ⟨x, H1, I1, rx, d, kvs, ex, hd, q⟩ => ?_)
  subst ex
  obtain rfl : u = Value.ref d := rx
  have od : ObjOk X.prog X.w H1 s1.heap d (.dK kvs) := by
    rcases hd with hd | ⟨o, hd⟩
    · exact I1.hok _ _ hd
    · exact (I1.hok _ _ hd).2
  obtain ⟨hz, hs0, vs, kv, hdo⟩ := od
  obtain ⟨ep, hat⟩ := hdo.dictAt
  have lk : kvs.length = vs.length := Paired.length kv
  have I2 : Inv X pins σ H1 { s1 with heap := s1.heap.push { cls := .type "dict_items", data := .fields #[.ref d] } } := I1.kept (t' := s1.toks) fun b ob q => Heap.get?_push_of_some _ q
  refine ⟨hdo.typeIs, hdo.mapOf.noDict, ?_⟩
  show wpAny _ _ (callWith cpos (.builtin "dict.items") [.ref d] [] []) _ X.xe s1
  refine method_meetsIn F.slot_dict_items F.entry_dict_items rfl (PySem.evalArgs_none ⟨rfl, hdo.typeIs, F.args_dict_items_1 _, _, meets_dict_items (mixKind X.prog X.w) d hs0, ⟨vs, hdo⟩, ?_⟩)
  refine Calls.spliced_nil ?_
  refine call_tuple_items (knd := mixKind X.prog X.w) (kvs := vs) (ep := ep) (I1.ok.hd hc) ⟨_, Heap.get?_push_size _ rfl, rfl, rfl⟩ (hat.push _) (by omega) fun h' tk as hk hl hG => ?_
  have new : ∀ t ∈ as, H1 t = none := fun t ht => I2.hok.fresh (Nat.le_of_lt (hG.above t ht))
  have nd : as.Nodup := List.Pairwise.imp (fun {a b} (h : a < b) => Nat.ne_of_lt h) hG.rise
  have la : as.length = (keysV kvs).length := by rw [List.length_map]; omega
  have keys := prL_keys (qs := as) (xs := keysV kvs) (ys := valsV kvs) la (by rw [List.length_map, List.length_map])
  have I3 : Inv X pins σ (updAll H1 (prL as (keysV kvs) (valsV kvs))) { s1 with heap := h', toks := tk } := laidAll (s := { s1 with heap := s1.heap.push { cls := .type "dict_items", data := .fields #[.ref d] } }) I2 hk (by rw [keys]; exact nd) (fun p hp => by
    have hm : p.1 ∈ as := by rw [← keys]; exact List.mem_map_of_mem (f := fun x : Addr × HO => x.1) hp
    refine ⟨?_, new _ hm⟩
    cases z : Heap.get? (s1.heap.push { cls := .type "dict_items", data := .fields #[.ref d] }) p.1 with
    | none => rfl
    | some o => exact absurd (Heap.lt_size z) (Nat.not_lt.mpr (Nat.le_of_lt (hG.above _ hm)))) (fun p hp G g eg => by
    obtain ⟨j, x, y, g1, g2, g3, g4⟩ := prL_at hp
    obtain ⟨key, k, v, f1, f2, f3⟩ := hG.pairs j p.1 g1
    rw [List.getElem?_map] at g2 g3
    cases z : kvs[j]? with
    | none => rw [z] at g2; cases g2
    | some pk =>
      rw [z] at g2 g3
      cases g2
      cases g3
      obtain ⟨qv, e1, e2, e3⟩ := paired_get kv z
      rw [f1] at e1
      cases e1
      have rk : RelV (kV pk.1) key := by
        rw [e2]
        exact relV_key (show keyIs k key = true from f2)
      rw [g4]
      exact ⟨show 2 ≤ sizeLine by decide, [key, v], .cons rk (.cons e3 .nil), _, eg.trans f3, rfl, _, rfl⟩) fun p hp => by
    obtain ⟨j, x, y, g1, _⟩ := prL_at hp
    obtain ⟨key, k, v, f1, f2, f3⟩ := hG.pairs j p.1 g1
    rw [f3]
    rfl
  have fr := I3.hok.fresh (Nat.le_refl h'.objs.size)
  refine ⟨.ref h'.objs.size, upd (updAll H1 (prL as (keysV kvs) (valsV kvs))) h'.objs.size (.tup (as.map .ref)), I3.laid (t' := tk) (fun b u e => Heap.get?_push_of_some _ e) (Nat.le_refl _) ?_, rfl, q as _ (by omega) nd new fr⟩
  refine ⟨by rw [List.length_map]; omega, as.map .ref, ?_, _, Heap.get?_push_size _ rfl, rfl, _, rfl⟩
  have go : ∀ l : List Addr, Vals (l.map V.ref) (l.map Value.ref) := fun l => by
    induction l with
    | nil => exact .nil
    | cons q l ih => exact .cons rfl ih
  exact go as
section
variable {X : Cx} {c : Fc} {W : WX}
abbrev itemsL (kvs : List (Key × D)) : List D := kvs.map fun kv => .tup [keyOne kv.1, kv.2]
def tupItemsD (to : TD) : TD := fun δ Q E => to δ (fun x δ1 => ∃ kvs : List (Key × D), x.toD = .dK kvs ∧ (∀ kv ∈ kvs, ∃ i : Int, kv.1 = .inl i) ∧ Q (.d (.tup (itemsL kvs))) δ1) E
theorem repK_keys {K : PySem.W.Frag} {F : Hp} : ∀ {vs : List (Key × V)} {ds : List (Key × D)}, RepK K F vs ds → (∀ kv ∈ ds, ∃ i : Int, kv.1 = .inl i) → RepL K F (keysV vs) (ds.map fun kv => keyOne kv.1)
  | _, _, .nil, _ => .nil
  | _, _, .cons (n := n) h t, hk => by
    obtain ⟨i, e⟩ := hk _ List.mem_cons_self
    have e : n = .inl i := e
    subst e
    exact .cons (.int i) (repK_keys t fun kv q => hk kv (List.mem_cons_of_mem _ q))
theorem repK_vals {K : PySem.W.Frag} {F : Hp} : ∀ {vs : List (Key × V)} {ds : List (Key × D)}, RepK K F vs ds → RepL K F (valsV vs) (ds.map fun kv => kv.2)
  | _, _, .nil => .nil
  | _, _, .cons h t => .cons h (repK_vals t)
theorem zipL_items : ∀ kvs : List (Key × D), zipL (kvs.map fun kv => keyOne kv.1) (kvs.map fun kv => kv.2) = itemsL kvs
  | [] => rfl
  | kv :: r => congrArg (D.tup [keyOne kv.1, kv.2] :: ·) (zipL_items r)
theorem pd_tupItems {e : Expr} {to : TD} {p apos cpos pos : Pos} (hc : X.calm = true) (hg : Gl X "tuple") (hm : X.mg "tuple" = none) (he : PE X e (LE X.K c W to)) (hbase : attributeBase e "items" X.env (eval e X.env) = eval e X.env := by rfl) (hline : (apos.endLine == cpos.line) = true := by rfl)
    (hs : starEach [.Call (.Attribute e "items" apos) [] [] cpos] X.env = (false, eval (.Call (.Attribute e "items" apos) [] [] cpos) X.env) :: starEach [] X.env := by rfl) :
    PE X (.Call (.Name "tuple" p) [.Call (.Attribute e "items" apos) [] [] cpos] [] pos) (LE X.K c W (tupItemsD to)) :=
  PE_imp (pe_tupItems hc he hg hm hbase hline hs) fun σ H Q ⟨δ, tmp, Qd, Ed, S, t, k, w⟩ => ⟨δ, tmp, _, Ed, S, t, fun v x δ1 H1 ⟨kvs, ex, hk, q⟩ ⟨F1, ow, S1⟩ => by
    obtain ⟨F, S2, _⟩ := S1.top_frz
    rw [ex] at S2
    have r0 := S2.top
    cases r0 with
    | @dK a vs _ s1 r =>
      refine ⟨a, vs, rfl, rd_mono S2.fh s1, fun qs p h1 h2 h3 h4 => ?_⟩
      have ll : (keysV vs).length = (valsV vs).length := by rw [List.length_map, List.length_map]
      have keys := prL_keys (qs := qs) (xs := keysV vs) (ys := valsV vs) (by rw [List.length_map]; exact h1) ll
      have nd : ((prL qs (keysV vs) (valsV vs)).map (·.1)).Nodup := by rw [keys]; exact h2
      have ext := Ext.newAll S2.fh nd fun pr hp => h3 _ (by rw [← keys]; exact List.mem_map_of_mem (f := fun x : Addr × HO => x.1) hp)
      have S3 := S2.pop.ext ext
      have ext2 := Ext.new (o := .tup (qs.map .ref)) ext.fh h4
      have S4 := S3.ext ext2
      refine k _ _ _ _ q ⟨_, _, S4.push (.tup upd_same ?_)⟩
      rw [← zipL_items]
      have k1 := repK_keys r hk
      have k2 := repK_vals r
      exact reps_zip ((k1.mono ext.f).mono ext2.f) ((k2.mono ext.f).mono ext2.f) (by rw [List.length_map]; exact h1) ll fun pr hp => ext2.f _ _ (updAll_at nd hp), w⟩
end
end DL
namespace DR
open PySem PySem.Spec PyProof.Rows L2 DL
theorem tupItems {δ : DSt} {Q : DK} {E : XD} {to : TD} (h : to δ (fun x δ1 => ∃ kvs : List (Key × DL.D), x.toD = .dK kvs ∧ (∀ kv ∈ kvs, ∃ i : Int, kv.1 = .inl i) ∧ Q (.d (.tup (itemsL kvs))) δ1) E) : tupItemsD to δ Q E := h
end DR

set_option Elab.async false
set_option linter.all false
set_option maxRecDepth 100000
set_option maxHeartbeats 2000000
/-! DL67: a call one of whose arguments is a new object of the body's own, handed over for good -/
namespace DL
open PySem PySem.Spec PyProof.Rows L2
section
variable (K : PySem.W.Frag) (c : Fc) (W : WX)
end
section
variable {K : PySem.W.Frag} {c : Fc} {F F' H H' : Hp} {ow : Addr → Option Hold} {δ : DSt} {tmp : List (V × DV)} {σ : L2.St} {v u : V} {x : DV} {o : OC} {d : D}
end
section
variable {K : PySem.W.Frag} {c : Fc} {W : WX} {F H : Hp} {ow : Addr → Option Hold} {δ : DSt} {tmp : List (V × DV)} {σ : L2.St} {v : V} {o : OC} {vs1 vs2 : List V} {as1 as2 : List AV} {xs1 xs2 : List DV} {sd : SpD} {Q : VK} {Qd : DK} {Ed : XD}
end
section
variable {X : Cx} {c : Fc} {W : WX}
variable {k : Nat} {f : Addr} {fd : FuncData} {ps : List Str} {sd : SpD} {x : Str} {p pos : Pos} {e : Expr} {es : List Expr} {ta : TDM}
end
end DL
namespace DR
open PySem PySem.Spec PyProof.Rows L2 DL
section
variable {δ : DSt} {Q : List AV → OC → List AV → DSt → Prop} {E : XD}
end
end DR

set_option Elab.async false
set_option linter.all false
set_option maxRecDepth 100000
set_option maxHeartbeats 2000000
/-! DL68: a class's constant -/
namespace DL
open PySem PySem.Spec PyProof.Rows L2
theorem pd_cval {X : Cx} {c : Fc} {W : WX} {e : Expr} {C : Addr} {mc : Value} {f : Str} {v : V} {d : D} {pos : Pos} (he : PE X e (tC (.ref C))) (r : ClX.CRead X.K C mc) (k : ∃ u, ClX.CVal X.K C mc f v u) (rep : ∀ F, Rep X.K F v d) (hb : attributeBase e f X.env (eval e X.env) = eval e X.env := by rfl) : PE X (.Attribute e f pos) (LE X.K c W (constD d)) :=
  PE_imp (ClX.pe_cval he hb) fun σ H Q ⟨δ, tmp, Qd, Ed, ⟨F, ow, S⟩, q, kk, w⟩ => by
    obtain ⟨u, k⟩ := k
    exact ⟨C, mc, v, u, rfl, r, k, kk v _ _ _ q ⟨F, ow, S.push (rep F)⟩⟩
end DL
namespace DL
open PySem PySem.Spec PyProof.Rows L2
/-- a class called by place alone -/
structure DefN (P : Program) (w : World) (K : PySem.W.Frag) (mg : Str → Option Value) (base : Heap) (C : Addr) (k : Nat) (ps : List Str) (sd : SpD) where
  f : Addr
  fd : FuncData
  ok : FnOk P w K mg base (L2.CX P w) k f fd ps (spOf K sd)
  b : Binds K fd ps []
  made : Mk K C f
/-- a class's __len__ -/
structure DefLen (P : Program) (w : World) (K : PySem.W.Frag) (mg : Str → Option Value) (base : Heap) (C : Addr) (k : Nat) (ps : List Str) (sd : SpD) where
  f : Addr
  fd : FuncData
  ok : FnOk P w K mg base (L2.CX P w) k f fd ps (spOf K sd)
  b : Binds K fd ps []
  le : LenOf K C f
end DL

set_option Elab.async false
set_option linter.all false
set_option maxRecDepth 100000
/-! DL69: a, b, c = x, y, z where one is a cell -/
namespace DL
open PySem PySem.Spec PyProof.Rows L2
section
variable {X : Cx} {c : Fc} {W : WX}
end
end DL

set_option Elab.async false
set_option linter.all false
set_option maxRecDepth 100000
set_option maxHeartbeats 2000000
/-! DL70: a list's items to names; sorted of whole numbers and of rows of four whole numbers; xs[i], xs[j] = a, b -/
namespace DL
open PySem PySem.Spec PyProof.Rows L2 PySem.W
section
variable {X : Cx} {c : Fc} {W : WX}
/-! rows of four -/
/-! xs[i], xs[j] = a, b : xs the own list in slot n -/
def setItem2 (j : Nat) (ti tk : TD) (ta : TDK) : TDS := fun D δ => ∃ o, δ[j]? = some (some (.own o)) ∧ ta δ (fun as δ1 => ∃ y z, as = [.d y, .d z] ∧ δ1[j]? = δ[j]? ∧ ti δ1 (fun k δ2 => ∃ xs n m, δ2[j]? = some (some (.own (.lst xs))) ∧ k.toD = .int n ∧ ixN xs.length n = some m ∧
  tk (δ2.set j (some (.own (.lst (xs.set m y))))) (fun k3 δ3 => ∃ xs3 n3 m3, δ3[j]? = some (some (.own (.lst xs3))) ∧ k3.toD = .int n3 ∧ ixN xs3.length n3 = some m3 ∧ D.nx (δ3.set j (some (.own (.lst (xs3.set m3 z)))))) D.ex) D.ex) D.ex
theorem psd_setItem2 {j : Nat} {x : Str} {a b i1 i2 : Expr} {ti tk : TD} {ta : TDK} {pos p1 p2 p3 p4 pt pt2 : Pos} {kt k2} (hcalm : X.calm = true)
    (hv : ∀ {p}, PE X (.Name x p) (tVar j)) (ha : PA X [a, b] (LK X.K c W ta)) (h1 : PE X i1 (LE X.K c W ti)) (h2 : PE X i2 (LE X.K c W tk))
    (h : ∀ {ta : TA} {g1 g2 : TG}, PA X [a, b] ta → PG X (.Subscript (.Name x p1) i1 p2) g1 → PG X (.Subscript (.Name x p3) i2 p4) g2 → PS X (.Assign [.Tuple [.Subscript (.Name x p1) i1 p2, .Subscript (.Name x p3) i2 p4] k2 pt2] (.Tuple [a, b] kt pt) pos) (tAsg (tTup ta) (gTup X.K 2 (gCons g1 (gCons g2 gNil)))))
    (hg1 : ∀ {to ti : TE} {t : TSet}, PE X (.Name x p1) to → PE X i1 ti → PSet X t → PG X (.Subscript (.Name x p1) i1 p2) (gSub to ti t)) (hg2 : ∀ {to ti : TE} {t : TSet}, PE X (.Name x p3) to → PE X i2 ti → PSet X t → PG X (.Subscript (.Name x p3) i2 p4) (gSub to ti t)) :
    PS X (.Assign [.Tuple [.Subscript (.Name x p1) i1 p2, .Subscript (.Name x p3) i2 p4] k2 pt2] (.Tuple [a, b] kt pt) pos) (LS X.K c W (setItem2 j ti tk ta)) :=
  PS_imp (h ha (hg1 hv h1 set_list) (hg2 hv h2 set_list)) fun D σ H ⟨δ, tmp, Dd, S, ⟨o, eo, q⟩, k, kr, kb, kc, w⟩ => ⟨δ, tmp, _, _, S, q, fun vs xs δ1 H1 ⟨y, z, e, ej0, q1⟩ hl S1 => by
    subst e
    match vs, hl with
    | [v, u], _ =>
      refine ⟨show 2 ≤ sizeLine by decide, fun p np => ⟨p, [v, u], rfl, SqT.of upd_same, rfl, v, [u], rfl, ?_⟩⟩
      obtain ⟨F, ow, S1⟩ := S1
      have S2 : SttF X.K c F ow δ1 ((u, .d z) :: (v, .d y) :: tmp) _ H1 := S1
      have S2 := S2.ext (Ext.newH (o := .tup [v, u]) S2.fh np)
      obtain ⟨v0, e1, p0, rfl, _⟩ := S2.sl _ _ (ej0.trans eo)
      refine ⟨_, e1, δ1, _, _, _, ⟨_, _, S2⟩, q1, fun w1 d1 δ2 H2 ⟨xs, n, m, ej, ek, em, q2⟩ ⟨F3, ow3, S3⟩ => ?_, w.push.push⟩
      obtain ⟨F4, S4, _⟩ := S3.top_frz
      rw [ek] at S4
      cases S4.top
      obtain ⟨v', e2, p', rfl, _, _, _, vs2, ep, r⟩ := S4.sl _ _ ej
      rw [e1] at e2
      cases e2
      refine ⟨p0, vs2, n, m, rfl, rfl, ep, by rw [r.len]; exact em, ?_⟩
      have S5 := S4.pop
      have hy : Rep X.K F4 v y := S5.pop.top
      have S6 := S5.write (o' := .lst (xs.set m y)) ej e1 ⟨_, upd_same, r.set hy m⟩
      refine ⟨u, [], rfl, _, e1, _, _, _, _, ⟨_, _, S6⟩, q2, fun w2 d2 δ3 H3 ⟨xs3, n3, m3, ej3, ek3, em3, q3⟩ ⟨F7, ow7, S7⟩ => ?_, w.push.push⟩
      obtain ⟨F8, S8, _⟩ := S7.top_frz
      rw [ek3] at S8
      cases S8.top
      obtain ⟨v'', e3, p'', rfl, _, _, _, vs3, ep3, r3⟩ := S8.sl _ _ ej3
      rw [e1] at e3
      cases e3
      refine ⟨p0, vs3, n3, m3, rfl, rfl, ep3, by rw [r3.len]; exact em3, rfl, ?_⟩
      exact k _ _ _ q3 ⟨F8, ow7, (S8.pop.write (o' := .lst (xs3.set m3 z)) ej3 e1 ⟨_, upd_same, r3.set S8.pop.top m3⟩).pop.pop⟩, w⟩
end
end DL

set_option Elab.async false
set_option linter.all false
set_option maxRecDepth 100000
set_option maxHeartbeats 2000000
/-! DL71: d.get(k, x) of an own dict by plain keys -/
namespace DL
open PySem PySem.Spec PyProof.Rows L2
section
variable {X : Cx} {c : Fc} {W : WX}
def getKO2 (j : Nat) (ti tx : TD) : TD := fun δ Q E => (∃ o, δ[j]? = some (some (.own (.dK o)))) ∧ ti δ (fun k δ1 => tx δ1 (fun z δ2 => ∃ kvs ks, δ2[j]? = some (some (.own (.dK kvs))) ∧ k.toD = keyOne ks ∧ Q (.d ((valK kvs ks).getD z.toD)) δ2) E) E
theorem pd_getKO2 {j : Nat} {x : Str} {i f : Expr} {ti tx : TD} {px pa pos : Pos} (h : ∀ {td ty tx : TE}, PE X (.Name x px) td → PE X i ty → PE X f tx → PE X (.Call (.Attribute (.Name x px) "get" pa) [i, f] [] pos) (tDGet2 td ty tx)) (hv : PE X (.Name x px) (tVar j)) (hi : PE X i (LE X.K c W ti)) (hx : PE X f (LE X.K c W tx)) :
    PE X (.Call (.Attribute (.Name x px) "get" pa) [i, f] [] pos) (LE X.K c W (getKO2 j ti tx)) :=
  PE_imp (h hv hi hx) fun σ H Q ⟨δ, tmp, Qd, Ed, ⟨F, ow, S⟩, ⟨⟨o, eo⟩, q⟩, k, w⟩ => by
    obtain ⟨v, e1, p, rfl, _, _, _, vs0, ep0, _⟩ := S.sl _ _ eo
    refine ⟨_, e1, p, rfl, .inl ⟨_, .inl ep0⟩, δ, tmp, _, Ed, ⟨F, ow, S⟩, q, fun u y δ1 H1 q1 S1 => ⟨δ1, _, _, Ed, S1, q1, fun t z δ2 H2 ⟨kvs, ks, ej, ek, q2⟩ ⟨F2, ow2, S2⟩ => ?_, w.push⟩, w⟩
    obtain ⟨F3, S3, _⟩ := S2.top_frz2
    rw [ek] at S3
    obtain rfl := key_one S3.pop.top
    obtain ⟨v', e2, p', rfl, _, _, _, vs, ep, r⟩ := S3.sl _ _ ej
    rw [e1] at e2
    cases e2
    refine ⟨valV vs ks, .inl ⟨vs, ks, .inl ep, rfl, rfl⟩, k _ _ _ _ q2 ⟨F3, ow2, S3.pop.pop.push ?_⟩⟩
    cases e : valK kvs ks with
    | some d =>
      obtain ⟨v2, ev, rv⟩ := repK_get r d e
      rw [ev]
      exact rv
    | none =>
      have : (valV vs ks).isSome = false := by rw [repK_some r, e]; rfl
      rw [show valV vs ks = none from Option.not_isSome_iff_eq_none.mp (by rw [this]; exact Bool.false_ne_true)]
      exact S3.top
end
end DL
namespace DR
open PySem PySem.Spec PyProof.Rows L2 DL
theorem getKO2 {δ : DSt} {Q : DK} {E : XD} {j : Nat} {ti tx : TD} {o : List (L2.Key × DL.D)} (e : δ[j]? = some (some (.own (.dK o)))) (h : ti δ (fun k δ1 => tx δ1 (fun z δ2 => ∃ kvs ks, δ2[j]? = some (some (.own (.dK kvs))) ∧ k.toD = keyOne ks ∧ Q (.d ((valK kvs ks).getD z.toD)) δ2) E) E) : DL.getKO2 j ti tx δ Q E := ⟨⟨o, e⟩, h⟩
end DR

set_option Elab.async false
set_option linter.all false
set_option maxRecDepth 100000
/-! DL72: x not in xs, xs an own list that goes on changing -/
namespace DL
open PySem PySem.Spec PyProof.Rows L2
section
variable {X : Cx} {c : Fc} {W : WX}
theorem ptd_inLO_f {j : Nat} {x : Str} {i : Expr} {ti : TD} {pos px : Pos} (hu : X.A.units + 65 < cLine) (hi : PE X i (LE X.K c W ti)) (hv : PE X (.Name x px) (tVar j)) : PT X (.Compare i [.NotIn] [.Name x px] pos) (LT X.K c W (tvD (inLO j true ti))) :=
  PT_imp (pt_cmpR (op_notInD hu) hi hv rfl) fun σ H Q ⟨δ, tmp, Qd, Ed, S, q, k, w⟩ => inLO_run (j := j) (n := true) (ti := ti) (fun x y H Q d ds h1 h2 h3 h4 h5 => ⟨d, ds, h1, h2, h3, h4, by rw [Bool.true_bne] at h5; exact h5⟩) σ H _ ⟨δ, tmp, (fun x δ1 => ∃ b, x = .d (.bl b) ∧ Qd b δ1), Ed, S, q, fun v x δ' H' ⟨b, e, q'⟩ ⟨F, ow, S'⟩ => by
    subst e
    cases S'.top
    exact ⟨b, rfl, k _ _ _ q' ⟨F, ow, S'.pop⟩⟩, w⟩
end
end DL

set_option Elab.async false
set_option linter.all false
set_option maxRecDepth 100000
set_option maxHeartbeats 2000000
/-! DL73: cells: own objects that no name holds, kept on the stack; an alias is their address -/
namespace DL
open PySem PySem.Spec PyProof.Rows L2
abbrev Cells := List (Addr × OC)
abbrev cellV (x : Addr × OC) : V × DV := (.ref x.1, .own x.2)
abbrev stk (cs : Cells) : List (V × DV) := cs.map cellV
structure EndsC where
  nx : DSt → Cells → Prop
  rt : DV → DSt → Cells → Prop
  ex : XD
  bk : DSt → Cells → Prop := fun _ _ => False
  ct : DSt → Cells → Prop := fun _ _ => False
abbrev TDSc := EndsC → DSt → Cells → Prop
abbrev TDc := DSt → Cells → (DV → DSt → Cells → Prop) → XD → Prop
abbrev TDTc := DSt → Cells → (Bool → DSt → Cells → Prop) → XD → Prop
abbrev TDKc := DSt → Cells → (List DV → DSt → Cells → Prop) → XD → Prop
section
variable (K : PySem.W.Frag) (c : Fc) (W : WX)
def LEc (t : TDc) : TE := fun σ H Q => ∃ δ cs pre tmp Qd Ed, Stt K c δ (pre ++ (stk cs ++ tmp)) σ H ∧ t δ cs Qd Ed ∧ (∀ v x δ' cs' H', Qd x δ' cs' → Stt K c δ' ((v, x) :: (pre ++ (stk cs' ++ tmp))) σ H' → Q v H') ∧ WD K c W tmp Ed
def LTc (t : TDTc) : TT := fun σ H Q => ∃ δ cs pre tmp Qd Ed, Stt K c δ (pre ++ (stk cs ++ tmp)) σ H ∧ t δ cs Qd Ed ∧ (∀ b δ' cs' H', Qd b δ' cs' → Stt K c δ' (pre ++ (stk cs' ++ tmp)) σ H' → Q b H') ∧ WD K c W tmp Ed
def LKc (t : TDKc) : TA := fun σ H Q => ∃ δ cs pre tmp Qd Ed, Stt K c δ (pre ++ (stk cs ++ tmp)) σ H ∧ t δ cs Qd Ed ∧ (∀ vs xs δ' cs' H', Qd xs δ' cs' → vs.length = xs.length → Stt K c δ' ((vs.zip xs).reverse ++ (pre ++ (stk cs' ++ tmp))) σ H' → Q vs H') ∧ WD K c W tmp Ed
def LSc (t : TDSc) : TS := fun D σ H => ∃ δ cs pre tmp Dd, Stt K c δ (pre ++ (stk cs ++ tmp)) σ H ∧ t Dd δ cs ∧ (∀ δ' cs' σ' H', Dd.nx δ' cs' → Stt K c δ' (pre ++ (stk cs' ++ tmp)) σ' H' → D.nx σ' H') ∧
  (∀ v x δ' cs' σ' H', Dd.rt x δ' cs' → Stt K c δ' ((v, x) :: (pre ++ (stk cs' ++ tmp))) σ' H' → D.rt v H') ∧
  (∀ δ' cs' σ' H', Dd.bk δ' cs' → Stt K c δ' (pre ++ (stk cs' ++ tmp)) σ' H' → D.bk σ' H') ∧ (∀ δ' cs' σ' H', Dd.ct δ' cs' → Stt K c δ' (pre ++ (stk cs' ++ tmp)) σ' H' → D.ct σ' H') ∧ WD K c W tmp Dd.ex
end
section
variable {K : PySem.W.Frag} {c : Fc} {W : WX} {tmp : List (V × DV)} {Ed : XD}
theorem WD.app (w : WD K c W tmp Ed) : ∀ l : List (V × DV), WD K c W (l ++ tmp) Ed
  | [] => w
  | (_, _) :: l => (w.app l).push
end
section
variable {X : Cx} {c : Fc} {W : WX}
/-! ### what stands without cells -/
def upE (t : TD) : TDc := fun δ cs Q E => t δ (fun x δ' => Q x δ' cs) E
def upT (t : TDT) : TDTc := fun δ cs Q E => t δ (fun x δ' => Q x δ' cs) E
def upS (t : TDS) : TDSc := fun D δ cs => t { nx := fun δ' => D.nx δ' cs, rt := fun x δ' => D.rt x δ' cs, ex := D.ex, bk := fun δ' => D.bk δ' cs, ct := fun δ' => D.ct δ' cs } δ
theorem pec_up {e : Expr} {t : TD} (h : PE X e (LE X.K c W t)) : PE X e (LEc X.K c W (upE t)) := PE_imp h fun σ H Q ⟨δ, cs, pre, tmp, Qd, Ed, S, t, k, w⟩ =>
  ⟨δ, _, _, Ed, S, t, fun v x δ' H' q S' => k v x δ' cs H' q S', (w.app _).app _⟩
theorem ptsc_up {e : List Expr} {t : TDT} (h : PTs X e (LT X.K c W t)) : PTs X e (LTc X.K c W (upT t)) := PTs_imp h fun σ H Q ⟨δ, cs, pre, tmp, Qd, Ed, S, t, k, w⟩ =>
  ⟨δ, _, _, Ed, S, t, fun b δ' H' q S' => k b δ' cs H' q S', (w.app _).app _⟩
theorem psc_up {st : Stmt} {t : TDS} (h : PS X st (LS X.K c W t)) : PS X st (LSc X.K c W (upS t)) := PS_imp h fun D σ H ⟨δ, cs, pre, tmp, Dd, S, q, k, kr, kb, kc, w⟩ =>
  ⟨δ, _, _, S, q, fun δ' σ' H' => k δ' cs σ' H', fun v x δ' σ' H' => kr v x δ' cs σ' H', fun δ' σ' H' => kb δ' cs σ' H', fun δ' σ' H' => kc δ' cs σ' H', (w.app _).app _⟩
/-! ### blocks -/
def seqC (t u : TDSc) : TDSc := fun D δ cs => t { D with nx := u D } δ cs
def nextC : TDSc := fun D δ cs => D.nx δ cs
theorem pdsc_nil : PSs X [] (LSc X.K c W nextC) := PSs_imp pss_nil fun D σ H ⟨δ, cs, pre, tmp, Dd, S, t, k, _⟩ => k δ cs σ H t S
theorem pdsc_cons {st : Stmt} {rest : List Stmt} {t u : TDSc} (h1 : PS X st (LSc X.K c W t)) (h2 : PSs X rest (LSc X.K c W u)) : PSs X (st :: rest) (LSc X.K c W (seqC t u)) :=
  PSs_imp (pss_cons h1 h2) fun D σ H ⟨δ, cs, pre, tmp, Dd, S, q, k, kr, kb, kc, w⟩ => ⟨δ, cs, pre, tmp, _, S, q, fun δ' cs' σ' H' q' S' => ⟨δ', cs', pre, tmp, Dd, S', q', k, kr, kb, kc, w⟩, kr, kb, kc, w⟩
theorem pdsc_one {st : Stmt} {t : TDSc} (h1 : PS X st (LSc X.K c W t)) : PSs X [st] (LSc X.K c W t) := PSs_imp (pss_one h1) fun _ _ _ q => q
/-- x = e -/
def setC (i : Nat) (o : Bool) (t : TDc) : TDSc := fun D δ cs => t δ cs (fun x δ1 cs1 => D.nx (δ1.set i (some (asD o x))) cs1) D.ex
theorem psc_set {i : Nat} {o : Bool} {x : Str} {e : Expr} {t : TDc} {pos pos' : Pos} (he : PE X e (LEc X.K c W t)) (ni : i ∉ c.sl) (hN : X.N.Nodup) (hi : X.N[i]? = some x) (hx : Loc X.env.scope x) (hs : swapsWith e (some (.Name x pos')) pos.line X.env = pure false := by rfl)
    (hf : X.fn x = true ∨ X.env.scope.names.lookup x = some .local := by first | exact .inl rfl | exact .inr rfl | assumption) : PS X (.Assign [.Name x pos'] e pos) (LSc X.K c W (setC i o t)) :=
  PS_imp (ps_set (i := i) hN hi hx he hs hf) fun D σ H ⟨δ, cs, pre, tmp, Dd, S, q, k, kr, kb, kc, w⟩ => ⟨δ, cs, pre, tmp, _, _, S, q, fun v x δ' cs' H' q' ⟨F, ow, S'⟩ => by
    obtain ⟨F', S2⟩ := S'.top_as o
    exact k _ _ _ _ q' (S2.set' ni), w⟩
/-! ### for -/
def forDC (g : TDG) (tb : TDSc) (D : EndsC) : List DL.D → DSt → Cells → Prop
  | [], δ, cs => D.nx δ cs
  | x :: xs, δ, cs => g x δ fun δ1 => tb { nx := forDC g tb D xs, ct := forDC g tb D xs, bk := D.nx, ex := D.ex, rt := fun _ _ _ => False } δ1 cs
def forC (ti : TDI) (g : TDG) (tb : TDSc) : TDSc := fun D δ cs => ti δ (fun xs δ1 => forDC g tb D xs δ1 cs) D.ex
theorem psc_for {tg iter : Expr} {body : List Stmt} {ti : TDI} {g : TDG} {tb : TDSc} {pos : Pos} (hp : PassesOwn (model X.prog X.w) X.A X.env X.xe) (hc : X.calm = true) (hi : PI X tg iter (LI X.K c W ti)) {vs : List Nat} (hg : PG X tg (LG X.K c vs g)) (hb : PSs X body (LSc X.K c W tb))
    (hs : ∀ x, foldedSetIterable iter X.env x = pure x := by intro _; rfl) : PS X (.For tg iter body [] pos) (LSc X.K c W (forC ti g tb)) :=
  PS_imp (ps_for hp hc hi hg hb hs) fun D σ H ⟨δ, cs, pre, tmp, Dd, S, q, k, kr, kb, kc, w⟩ => by
    refine ⟨δ, _, _, _, S, q, fun J v src items δ1 H1 q1 sv S1 => ?_, (w.app _).app _⟩
    refine ⟨fun i m σ H => m = items.length - i ∧ i ≤ items.length ∧ ∃ δ cs, Stt X.K c δ ((v, .d src) :: (pre ++ (stk cs ++ tmp))) σ H ∧ forDC g tb Dd (items.drop i) δ cs, ⟨items.length, by simp, Nat.zero_le _, δ1, cs, S1, q1⟩, ?_⟩
    rintro i m σ2 H2 ⟨rfl, hi, δ2, cs2, ⟨F2, ow2, S2⟩, q2⟩
    by_cases hlt : i < items.length
    · refine .inr ⟨sv.go i F2 H2 S2.fh S2.top hlt, fun σ H => i + 1 ≤ items.length ∧ ∃ δ cs, Stt X.K c δ ((v, .d src) :: (pre ++ (stk cs ++ tmp))) σ H ∧ forDC g tb Dd (items.drop (i + 1)) δ cs, fun σ' H' h => ⟨items.length - (i + 1), by omega, rfl, h⟩, fun x H' y => ?_⟩
      obtain ⟨F3, e3, r3⟩ := sv.yld i F2 H2 x H' S2.fh S2.top y _ (List.getElem?_eq_getElem hlt)
      rw [List.drop_eq_getElem_cons hlt] at q2
      exact ⟨δ2, (v, .d src) :: (pre ++ (stk cs2 ++ tmp)), _, _, ⟨F3, ow2, (S2.ext e3).push r3⟩, q2, fun δ4 σ4 H4 q4 S4 _ => ⟨δ4, cs2, (v, .d src) :: pre, tmp, _, S4, q4, fun δ5 cs5 σ5 H5 q5 S5 => ⟨hlt, δ5, cs5, S5, q5⟩, fun u z δ5 cs5 σ5 H5 q5 _ => q5.elim, fun δ5 cs5 σ5 H5 q5 ⟨F5, ow5, S5⟩ => k δ5 cs5 σ5 H5 q5 ⟨F5, ow5, S5.pop⟩, fun δ5 cs5 σ5 H5 q5 S5 => ⟨hlt, δ5, cs5, S5, q5⟩, w⟩⟩
    · have e : i = items.length := by omega
      subst e
      rw [List.drop_length] at q2
      exact .inl ⟨sv.stop _ F2 H2 S2.fh S2.top (Nat.le_refl _), k _ _ _ _ q2 ⟨F2, ow2, S2.pop⟩⟩
end
/-! ### the stack put in another order -/
section
variable {K : PySem.W.Frag} {c : Fc} {F H : Hp} {ow ow' : Addr → Option Hold} {δ : DSt} {σ : L2.St} {v : V} {x : DV}
def renH (f : Nat → Nat) : Option Hold → Option Hold
  | some (.t n) => some (.t (f n))
  | z => z
theorem RepV.ren {f : Nat → Nat} {n : Nat} (q : RepV K c F H ow (.t n) v x) : RepV K c F H (fun a => renH f (ow a)) (.t (f n)) v x := by
  cases x with
  | d y => exact q
  | own o =>
    obtain ⟨p, rfl, a, b, w, r⟩ := q
    exact ⟨p, rfl, by show renH f (ow p) = _; rw [a]; rfl, b, .inl w.t, r⟩
theorem RepV.renS {f : Nat → Nat} {i : Nat} (q : RepV K c F H ow (.s i) v x) : RepV K c F H (fun a => renH f (ow a)) (.s i) v x := by
  cases x with
  | d y => exact q
  | own o =>
    obtain ⟨p, rfl, a, b, w, r⟩ := q
    exact ⟨p, rfl, by show renH f (ow p) = _; rw [a]; rfl, b, w, r⟩
theorem RepTmp.ren {f : Nat → Nat} : ∀ {l : List (V × DV)}, (∀ n, n < l.length → f n = n) → RepTmp K c F H ow l → RepTmp K c F H (fun a => renH f (ow a)) l
  | [], _, _ => True.intro
  | (v, x) :: l, h, q => ⟨by
      have := q.1.ren (f := f)
      rw [h _ (Nat.lt_succ_self _)] at this
      exact this, RepTmp.ren (fun n hn => h n (Nat.lt_succ_of_lt hn)) q.2⟩
theorem RepTmp.sink {f : Nat → Nat} {v : V} {x : DV} {B : List (V × DV)} (h1 : ∀ n, n < B.length → f n = n) : ∀ {A : List (V × DV)}, (∀ n, B.length ≤ n → n < B.length + A.length → f n = n + 1) → RepTmp K c F H ow (A ++ B) → RepV K c F H (fun a => renH f (ow a)) (.t B.length) v x →
    RepTmp K c F H (fun a => renH f (ow a)) (A ++ (v, x) :: B)
  | [], _, q, r => ⟨r, RepTmp.ren h1 q⟩
  | (u, y) :: A, h, q, r => by
    refine ⟨?_, RepTmp.sink h1 (fun n a b => h n a (Nat.lt_succ_of_lt b)) q.2 r⟩
    have h2 : RepV K c F H (fun a => renH f (ow a)) (.t (f (A ++ B).length)) u y := q.1.ren (f := f)
    have e : f (A ++ B).length = (A ++ (v, x) :: B).length := by
      rw [h _ (by rw [List.length_append]; omega) (by rw [List.length_append, List.length_cons]; omega), List.length_append, List.length_append, List.length_cons]
      omega
    rw [e] at h2
    exact h2
theorem SttF.sink {A B : List (V × DV)} (S : SttF K c F ow δ ((v, x) :: (A ++ B)) σ H) : ∃ ow', SttF K c F ow' δ (A ++ (v, x) :: B) σ H := by
  let f : Nat → Nat := fun n => if n < B.length then n else if n < B.length + A.length then n + 1 else B.length
  refine ⟨fun a => renH f (ow a), { S with sl := fun i x q => let ⟨v, e1, e2⟩ := S.sl i x q; ⟨v, e1, e2.renS⟩, tm := ?_ }⟩
  refine RepTmp.sink (fun n h => if_pos h) (fun n h1 h2 => (if_neg (Nat.not_lt.mpr h1)).trans (if_pos h2)) S.tm.2 ?_
  have := S.tm.1.ren (f := f)
  have e : f (A ++ B).length = B.length := by
    show (if _ then _ else _) = _
    rw [List.length_append, if_neg (by omega), if_neg (by omega)]
  rw [e] at this
  exact this
theorem RepTmp.mid : ∀ {A B : List (V × DV)}, RepTmp K c F H ow (A ++ (v, x) :: B) → RepV K c F H ow (.t B.length) v x
  | [], _, q => q.1
  | (_, _) :: _, _, q => RepTmp.mid q.2
end
/-! ### an alias is put in the place of a name that holds the cell -/
section
variable {K : PySem.W.Frag} {c c' : Fc} {F H : Hp} {ow ow' : Addr → Option Hold} {δ : DSt} {σ : L2.St} {v : V} {x : DV} {a : Addr} {o : OC} {i : Nat}
theorem RepV.at {h : Hold} (q : RepV K c F H ow h v x) (n : ∀ p, NewAt c h p → NewAt c' h p) (m : ∀ p, v = .ref p → ow p = some h → ow' p = ow p) : RepV K c' F H ow' h v x := by
  cases x with
  | d y => exact q
  | own o =>
    obtain ⟨p, rfl, a, b, w, r⟩ := q
    exact ⟨p, rfl, (m p rfl a).trans a, b, n p w, r⟩
theorem RepTmp.swap {v : V} {x y : DV} {B : List (V × DV)} (n : ∀ k p, NewAt c (.t k) p → NewAt c' (.t k) p) (m : ∀ k p, k ≠ B.length → ow p = some (.t k) → ow' p = ow p) (r : RepV K c' F H ow' (.t B.length) v y) : ∀ {A : List (V × DV)}, RepTmp K c F H ow (A ++ (v, x) :: B) → RepTmp K c' F H ow' (A ++ (v, y) :: B)
  | [], q => ⟨r, by
      have go : ∀ {l : List (V × DV)}, l.length ≤ B.length → RepTmp K c F H ow l → RepTmp K c' F H ow' l := fun {l} => by
        induction l with
        | nil => exact fun _ _ => True.intro
        | cons e l ih =>
          obtain ⟨u, z⟩ := e
          exact fun hl q => ⟨q.1.at (n _) fun p _ e => m _ p (by have : l.length + 1 ≤ B.length := hl; omega) e, ih (Nat.le_of_succ_le hl) q.2⟩
      exact go (Nat.le_refl _) q.2⟩
  | (u, z) :: A, q => ⟨by
      have hl : (A ++ (v, x) :: B).length = (A ++ (v, y) :: B).length := by rw [List.length_append, List.length_append]; rfl
      have hn : (A ++ (v, x) :: B).length ≠ B.length := by rw [List.length_append, List.length_cons]; omega
      have h1 : RepV K c' F H ow' (.t (A ++ (v, x) :: B).length) u z := q.1.at (c' := c') (ow' := ow') (n _) fun p _ e => m _ p hn e
      rw [hl] at h1
      exact h1, RepTmp.swap n m r q.2⟩
abbrev focF (c : Fc) (i : Nat) (a : Addr) : Fc := { c with sl := i :: c.sl, ad := a :: c.ad }
theorem SttF.focus {A B : List (V × DV)} (S : SttF K c F ow δ (A ++ (.ref a, .own o) :: B) σ H) (ei : δ[i]? = some (some (.d (.adr a)))) (ni : i ∉ c.sl) : c.H0 a = none ∧ ∃ ow', SttF K (focF c i a) F ow' (δ.set i (some (.own o))) (A ++ (.ref a, .d (.adr a)) :: B) σ H := by
  obtain ⟨p, e0, ea, b, w, r⟩ := S.tm.mid
  cases e0
  have h0 := w.t
  obtain ⟨v, e1, r1⟩ := S.sl _ _ ei
  cases (show Rep K F v (.adr a) from r1)
  have nw : ∀ (h : Hold) (p : Addr), NewAt c h p → NewAt (focF c i a) h p := fun h p w => w.imp id fun ⟨w1, j, e, w2⟩ => ⟨List.mem_cons_of_mem _ w1, j, e, List.mem_cons_of_mem _ w2⟩
  refine ⟨h0, owSet ow a (.s i), ⟨S.fh, S.f0, S.fn, fun b u e n => S.fr b u e fun z => n (List.mem_cons_of_mem _ z), S.up, by rw [List.length_set]; exact S.len, fun j z q => ?_, ?_, fun k j p q1 q2 => ?_⟩⟩
  · by_cases e' : i = j
    · subst e'
      rw [List.getElem?_set_self (set_lt ei)] at q
      cases q
      exact ⟨.ref a, e1, a, rfl, owSet_at, b, .inl h0, r⟩
    · rw [List.getElem?_set_ne e'] at q
      obtain ⟨u, e2, r2⟩ := S.sl j z q
      exact ⟨u, e2, r2.at (nw _) fun p _ e => owSet_ne fun y => by subst y; rw [ea] at e; cases e⟩
  · refine RepTmp.swap (c' := focF c i a) (ow' := owSet ow a (.s i)) (x := .own o) (y := .d (.adr a)) (fun k p => nw _ p) (fun k p hk e => owSet_ne fun y => ?_) (show Rep K F (.ref a) (.adr a) from .adr a) S.tm
    subst y; rw [ea] at e; cases e; exact hk rfl
  · cases k with
    | zero => cases q1; cases q2; exact e1
    | succ k => exact S.ps k j p q1 q2
theorem SttF.unfocus {A B : List (V × DV)} (S : SttF K (focF c i a) F ow δ (A ++ (.ref a, .d (.adr a)) :: B) σ H) (ei : δ[i]? = some (some (.own o))) (ni : i ∉ c.sl) (h0 : c.H0 a = none) : ∃ ow', SttF K c F ow' (δ.set i (some (.d (.adr a)))) (A ++ (.ref a, .own o) :: B) σ H := by
  have es := S.ps 0 i a rfl rfl
  obtain ⟨v, e1, p, e0, ea, b, w, r⟩ := S.sl _ _ ei
  rw [es] at e1
  cases e1
  cases e0
  have nwt : ∀ (k : Nat) (p : Addr), NewAt (focF c i a) (.t k) p → NewAt c (.t k) p := fun k p w => .inl w.t
  refine ⟨owSet ow a (.t B.length), ⟨S.fh, S.f0, S.fn, fun b u e n => S.fr b u e fun z => (List.mem_cons.mp z).elim (fun y => by rw [y] at e; exact nomatch (show (none : Option HO) = some u from h0.symm.trans e)) n, S.up, by rw [List.length_set]; exact S.len, fun j z q => ?_, ?_, fun k j p q1 q2 => S.ps (k + 1) j p q1 q2⟩⟩
  · by_cases e' : i = j
    · subst e'
      rw [List.getElem?_set_self (set_lt ei)] at q
      cases q
      exact ⟨.ref a, es, .adr a⟩
    · rw [List.getElem?_set_ne e'] at q
      obtain ⟨u, e2, r2⟩ := S.sl j z q
      refine ⟨u, e2, r2.at (fun p w => ?_) fun p _ e => owSet_ne fun y => by subst y; rw [ea] at e; cases e; exact e' rfl⟩
      rcases w with w | ⟨w1, k, e, w2⟩
      · exact .inl w
      · cases e
        rcases List.mem_cons.mp w1 with y | w1
        · exact .inl (y ▸ h0)
        · exact .inr ⟨w1, j, rfl, (List.mem_cons.mp w2).elim (fun y => (e' y.symm).elim) id⟩
  · refine RepTmp.swap (c := focF c i a) (c' := c) (ow' := owSet ow a (.t B.length)) (x := .d (.adr a)) (y := .own o) (fun k p => nwt k p) (fun k p hk e => owSet_ne fun y => ?_) ⟨a, rfl, owSet_at, b, .inl h0, r⟩ S.tm
    subst y; rw [ea] at e; cases e
end
section
variable {X : Cx} {c : Fc} {W : WX}
theorem cells_at {cs : Cells} {k : Nat} {a : Addr} {o : OC} (h : cs[k]? = some (a, o)) : ∃ l r, cs = l ++ (a, o) :: r ∧ ∀ o', cs.set k (a, o') = l ++ (a, o') :: r := by
  refine ⟨cs.take k, cs.drop (k + 1), ?_, fun o' => ?_⟩
  · have hk := set_lt h
    have e : cs[k] = (a, o) := Option.some.inj ((List.getElem?_eq_getElem hk).symm.trans h)
    rw [← e, ← List.drop_eq_getElem_cons hk, List.take_append_drop]
  · rw [List.set_eq_take_append_cons_drop, if_pos (set_lt h)]
/-- a statement while the name at slot i, an alias, holds its cell -/
def withC (i : Nat) (t : TDS) : TDSc := fun D δ cs => ∃ (k : Nat) (a : Addr) (o : OC), δ[i]? = some (some (.d (.adr a))) ∧ cs[k]? = some (a, o) ∧
  t { nx := fun δ' => ∃ o', δ'[i]? = some (some (.own o')) ∧ D.nx (δ'.set i (some (.d (.adr a)))) (cs.set k (a, o')), rt := fun _ _ => False, ex := fun _ _ => False } (δ.set i (some (.own o)))
theorem psc_with {i : Nat} {st : Stmt} {t : TDS} (h : ∀ a, PS X st (LS X.K (focF c i a) W t)) (ni : i ∉ c.sl) : PS X st (LSc X.K c W (withC i t)) := by
  refine ⟨fun pins s σ H D I ⟨δ, cs, pre, tmp, Dd, ⟨F, ow, S⟩, ⟨k, a, o, ei, ek, q⟩, kn, _⟩ => (h a).run pins s σ H D I ?_⟩
  obtain ⟨l, r, e1, e2⟩ := cells_at ek
  have es : pre ++ (stk cs ++ tmp) = (pre ++ stk l) ++ (.ref a, .own o) :: (stk r ++ tmp) := by
    rw [e1]; simp [stk]
  rw [es] at S
  obtain ⟨h0, ow', S'⟩ := S.focus ei ni
  refine ⟨_, _, _, ⟨F, ow', S'⟩, q, fun δ' σ' H' ⟨o', ei', q'⟩ ⟨F2, ow2, S2⟩ => ?_, fun _ _ _ _ _ z => z.elim, fun _ _ _ z => z.elim, fun _ _ _ z => z.elim, fun _ _ _ _ _ _ _ _ z => z.elim⟩
  obtain ⟨ow3, S3⟩ := S2.unfocus ei' ni h0
  refine kn _ _ _ _ q' ⟨F2, ow3, ?_⟩
  rw [e2]
  have es' : pre ++ (stk (l ++ (a, o') :: r) ++ tmp) = (pre ++ stk l) ++ (.ref a, .own o') :: (stk r ++ tmp) := by
    simp [stk]
  rw [es']
  exact S3
end
end DL

set_option Elab.async false
set_option linter.all false
set_option maxRecDepth 100000
set_option maxHeartbeats 2000000
/-! DL74: with cells: [f(x) for x in xs], [e, list(..)], e[k] of an alias, a call that looks through the cells, the end of a def -/
namespace DL
open PySem PySem.Spec PyProof.Rows L2
section
variable {X : Cx} {c : Fc} {W : WX}
/-! ### comprehensions -/
def lcC (g : TDG) (tt : TDTc) (te : TDc) (vs : List Nat) : List DL.D → List DL.D → DSt → Cells → (List DL.D → DSt → Cells → Prop) → Prop
  | [], acc, δ, cs, Q => Q acc δ cs
  | x :: xs, acc, δ, cs, Q => g x δ fun δ1 => tt δ1 cs (fun b δ2 cs2 => if b = true then te δ2 cs2 (fun y δ3 cs3 => acc.length < sizeLine ∧ lcC g tt te vs xs (acc ++ [y.toD]) (wipeD δ3 vs) cs3 Q) noX else lcC g tt te vs xs acc (wipeD δ2 vs) cs2 Q) noX
def compC (ti : TDI) (g : TDG) (tt : TDTc) (te : TDc) (vs : List Nat) : TDc := fun δ cs Q E => ti δ (fun xs δ1 => lcC g tt te vs xs [] (wipeD δ1 vs) cs fun acc δ2 cs2 => Q (.own (.lst acc)) δ2 cs2) E
theorem lift_compC {K : PySem.W.Frag} {ti : TDI} {g : TDG} {tt : TDTc} {te : TDc} {vs : List Nat} (hv : ∀ i ∈ vs, i ∉ c.sl) : ∀ σ H Q, LEc K c W (compC ti g tt te vs) σ H Q → tLc (LI K c W ti) (LG K c vs g) (LTc K c W0 tt) (LEc K c W0 te) vs σ H Q := fun σ H Q ⟨δ, cs, pre, tmp, Qd, Ed, S, q, k, w⟩ => by
  refine ⟨δ, _, _, _, S, q, fun J v src items δ1 H1 q1 sv ⟨F1, ow1, S1⟩ => ?_, (w.app _).app _⟩
  intro D nD
  have S2 := (S1.wipe hv).pushNew (o := .lst []) nD ⟨[], upd_same, .nil⟩
  refine ⟨fun i m H => m = items.length - i ∧ i ≤ items.length ∧ ∃ δ acc cs, Stt K c (wipeD δ vs) ((.ref D, .own (.lst acc)) :: (v, .d src) :: (pre ++ (stk cs ++ tmp))) (wipe σ vs) H ∧ lcC g tt te vs (items.drop i) acc (wipeD δ vs) cs fun acc δ2 cs2 => Qd (.own (.lst acc)) δ2 cs2,
    ⟨items.length, by simp, Nat.zero_le _, δ1, [], cs, ⟨_, _, S2⟩, q1⟩, ?_⟩
  rintro i m H2 ⟨rfl, hi, δ2, acc, cs2, ⟨F2, ow2, S3⟩, q2⟩
  have src2 : Rep K F2 v src := S3.tm.2.1
  by_cases hlt : i < items.length
  · refine .inr ⟨sv.go i F2 H2 S3.fh src2 hlt, fun H => i + 1 ≤ items.length ∧ ∃ δ acc cs, Stt K c (wipeD δ vs) ((.ref D, .own (.lst acc)) :: (v, .d src) :: (pre ++ (stk cs ++ tmp))) (wipe σ vs) H ∧ lcC g tt te vs (items.drop (i + 1)) acc (wipeD δ vs) cs fun acc δ2 cs2 => Qd (.own (.lst acc)) δ2 cs2,
      fun H' h => ⟨items.length - (i + 1), by omega, rfl, h⟩, fun x H' y => ?_⟩
    obtain ⟨F3, e3, r3⟩ := sv.yld i F2 H2 x H' S3.fh src2 y _ (List.getElem?_eq_getElem hlt)
    rw [List.drop_eq_getElem_cons hlt] at q2
    refine ⟨wipeD δ2 vs, (.ref D, .own (.lst acc)) :: (v, .d src) :: (pre ++ (stk cs2 ++ tmp)), _, _, ⟨F3, ow2, (S3.ext e3).push r3⟩, q2, fun δ4 σ4 H4 q4 S4 hw => ?_⟩
    have hw' : wipe σ4 vs = wipe σ vs := by
      rw [hw]
      have idem : ∀ (l : List Nat), (∀ i ∈ l, i ∈ vs) → wipe (wipe σ l) vs = wipe σ vs := fun l => by
        induction l with
        | nil => exact fun _ => rfl
        | cons a r ih =>
          intro h
          show wipe ((wipe σ r).set a none) vs = _
          rw [wipe_set (h a List.mem_cons_self)]
          exact ih fun i hi => h i (List.mem_cons_of_mem _ hi)
      exact idem vs fun _ h => h
    refine ⟨hw', δ4, cs2, (.ref D, .own (.lst acc)) :: (v, .d src) :: pre, tmp, _, noX, S4, q4, fun b δ5 cs5 H5 q5 ⟨F5, ow5, S5⟩ => ?_, fun _ _ _ _ _ _ _ _ z => z.elim⟩
    cases b with
    | false =>
      have S6 := S5.wipe hv
      rw [hw'] at S6
      exact ⟨hlt, δ5, acc, cs5, ⟨_, _, S6⟩, q5⟩
    | true =>
      refine ⟨δ5, cs5, (.ref D, .own (.lst acc)) :: (v, .d src) :: pre, tmp, _, noX, ⟨F5, ow5, S5⟩, q5, fun u z δ6 cs6 H6 ⟨hz, q6⟩ ⟨F6, ow6, S6⟩ => ?_, fun _ _ _ _ _ _ _ _ z => z.elim⟩
      obtain ⟨F7, S7, s7⟩ := S6.top_frz
      obtain ⟨p', e0, _, _, _, ws, ep, rw'⟩ := S7.tm.2.1
      cases e0
      have S8 := S7.pop.writeT (o' := .lst (acc ++ [z.toD])) (ob := .lst (ws ++ [u])) ⟨_, upd_same, rw'.app (.cons S7.top .nil)⟩
      have S9 := S8.wipe hv
      rw [hw'] at S9
      exact ⟨ws, ep, by rw [rw'.len]; exact hz, hlt, δ6, _, cs6, ⟨_, _, S9⟩, q6⟩
  · have e : i = items.length := by omega
    subst e
    rw [List.drop_length] at q2
    refine .inl ⟨sv.stop _ F2 H2 S3.fh src2 (Nat.le_refl _), k _ _ _ _ _ q2 ?_⟩
    have S4 := S3.unwipe hv
    obtain ⟨p', e0, e, b, n, r⟩ := S4.tm.1
    cases e0
    have S5 := S4.pop.pop.reown (ow' := owSet ow2 D (.t (pre ++ (stk cs2 ++ tmp)).length)) (fun k a z _ => owSet_ne fun y => by subst y; rw [e] at z; cases z) (fun k a hk z _ => owSet_ne fun y => by
      subst y; rw [e] at z; cases z
      have : (pre ++ (stk cs2 ++ tmp)).length + 1 < (pre ++ (stk cs2 ++ tmp)).length := hk
      omega)
    exact ⟨F2, _, { S5 with tm := ⟨⟨D, rfl, owSet_at, b, .inl n.t, r⟩, S5.tm⟩ }⟩
theorem pec_lc {elt tg iter : Expr} {ifs : List Expr} {scope : Scope} {own : List (Str × Nat)} {pos : Pos} {ti : TDI} {g : TDG} {tt : TDTc} {te : TDc} (hc : X.calm = true) (hN : X.N.Nodup) (hi : PI X tg iter (LI X.K c W ti)) (ok : BlkOk X.N X.env.scope scope own)
    (hg : ∀ (s : Shared) (H : Hp) (C : Addr) (cl : List (Str × Addr)) (fp : List Addr), PG (X.blk s H scope (compEnvC scope cl C X.env) fp) tg (LG X.K c (own.map (·.2)) g)) (ht : ∀ (s : Shared) (H : Hp) (C : Addr) (cl : List (Str × Addr)) (fp : List Addr), PTs (X.blk s H scope (compEnvC scope cl C X.env) fp) ifs (LTc X.K c W0 tt))
    (he : ∀ (s : Shared) (H : Hp) (C : Addr) (cl : List (Str × Addr)) (fp : List Addr), PE (X.blk s H scope (compEnvC scope cl C X.env) fp) elt (LEc X.K c W0 te)) (hv : ∀ i ∈ own.map (·.2), i ∉ c.sl) (hs : ∀ x, foldedSetIterable iter X.env x = pure x := by intro _; rfl) :
    PE X (.ListComp elt [⟨tg, iter, ifs, 0⟩] scope pos) (LEc X.K c W (compC ti g tt te (own.map (·.2)))) := PE_imp (pe_lc hc hN hi ok hg ht he hs) (lift_compC hv)
theorem psc_setLc {i : Nat} {o : Bool} {y : Str} {py : Pos} {elt tg iter : Expr} {ifs : List Expr} {scope : Scope} {own : List (Str × Nat)} {pos spos : Pos} {ti : TDI} {g : TDG} {tt : TDTc} {te : TDc} (ni : i ∉ c.sl) (hc : X.calm = true) (hN : X.N.Nodup) (hy : X.N[i]? = some y) (hyl : X.env.scope.names.lookup y = some .local)
    (hsw : swapsWith (.ListComp elt [⟨tg, iter, ifs, 0⟩] scope pos) (some (.Name y py)) spos.line X.env = pure true) (hi : PI X tg iter (LI X.K c W ti)) (ok : BlkOk X.N X.env.scope scope own)
    (hg : ∀ (s : Shared) (H : Hp) (C : Addr) (cl : List (Str × Addr)) (fp : List Addr), PG (X.blk s H scope (compEnvC scope cl C X.env) fp) tg (LG X.K c (own.map (·.2)) g)) (ht : ∀ (s : Shared) (H : Hp) (C : Addr) (cl : List (Str × Addr)) (fp : List Addr), PTs (X.blk s H scope (compEnvC scope cl C X.env) fp) ifs (LTc X.K c W0 tt))
    (he : ∀ (s : Shared) (H : Hp) (C : Addr) (cl : List (Str × Addr)) (fp : List Addr), PE (X.blk s H scope (compEnvC scope cl C X.env) fp) elt (LEc X.K c W0 te)) (hv : ∀ i ∈ own.map (·.2), i ∉ c.sl) (hs : ∀ x, foldedSetIterable iter X.env x = pure x := by intro _; rfl) :
    PS X (.Assign [.Name y py] (.ListComp elt [⟨tg, iter, ifs, 0⟩] scope pos) spos) (LSc X.K c W (setC i o (compC ti g tt te (own.map (·.2))))) :=
  PS_imp (ps_setLc (i := i) hc hN hy hyl hsw hi ok hg ht he hs) fun D σ H ⟨δ, cs, pre, tmp, Dd, S, q, k, kr, kb, kc, w⟩ => by
    show tLc _ _ _ _ _ σ H fun x H1 => gName i x σ H1 D.nx
    refine lift_compC (W := W) hv _ _ _ ⟨δ, cs, pre, tmp, _, _, S, q, fun v x δ' cs' H' q' ⟨F, ow, S'⟩ => ?_, w⟩
    obtain ⟨F', S2⟩ := S'.top_as o
    exact k _ _ _ _ q' (S2.set' ni)
theorem RepTmp.own {K : PySem.W.Frag} {c : Fc} {F H : Hp} {ow : Addr → Option Hold} : ∀ {l : List (V × DV)} {v : V} {x : DV}, RepTmp K c F H ow l → (v, x) ∈ l → ∃ k, k < l.length ∧ RepV K c F H ow (.t k) v x
  | (_, _) :: _, _, _, q, h => (List.mem_cons.mp h).elim (fun e => by cases e; exact ⟨_, Nat.lt_succ_self _, q.1⟩) fun h => let ⟨k, a, b⟩ := RepTmp.own q.2 h; ⟨k, Nat.lt_succ_of_lt a, b⟩
/-! ### [x, an own list that becomes a cell] -/
def cell2 (t u : TD) : TDc := fun δ cs Q E => t δ (fun x δ1 => u δ1 (fun y δ2 => ∃ o, y = .own o ∧ ∀ a, a ∉ cs.map (·.1) → Q (.own (.lst [x.toD, .adr a])) δ2 ((a, o) :: cs)) E) E
theorem pec_cell2 {a b : Expr} {t u : TD} {pos : Pos} (ha : PE X a (LE X.K c W t)) (hb : PE X b (LE X.K c W u)) (h1 : starEach [a, b] X.env = (false, eval a X.env) :: starEach [b] X.env := by rfl) (h2 : starEach [b] X.env = (false, eval b X.env) :: starEach [] X.env := by rfl) : PE X (.List [a, b] pos) (LEc X.K c W (cell2 t u)) :=
  PE_imp (pe_lst (pa_cons ha (pa_cons hb pa_nil h2) h1)) fun σ H Q ⟨δ, cs, pre, tmp, Qd, Ed, S, q, k, w⟩ => by
    refine ⟨δ, _, _, _, S, q, fun v x δ1 H1 q1 ⟨F1, ow1, S1⟩ => ?_, (w.app _).app _⟩
    obtain ⟨F2, S2, _⟩ := S1.top_frz
    refine ⟨δ1, _, _, _, ⟨F2, ow1, S2⟩, q1, fun v2 y δ2 H2 ⟨o, e, q2⟩ ⟨F3, ow3, S3⟩ => ?_, ((w.app _).app _).push⟩
    subst e
    refine ⟨by show 2 ≤ sizeLine; decide, fun p np => ?_⟩
    obtain ⟨a', e0, ea, _⟩ := S3.tm.1
    subst e0
    have hfr : a' ∉ cs.map (·.1) := fun h => by
      obtain ⟨⟨b, o2⟩, hm, e⟩ := List.mem_map.mp h
      have e : b = a' := e
      subst e
      obtain ⟨k, hk, p', e0, eb, _⟩ := RepTmp.own S3.tm.2 (List.mem_cons_of_mem _ (List.mem_append_right pre (List.mem_append_left tmp (List.mem_map.mpr ⟨(b, o2), hm, rfl⟩))))
      cases e0
      rw [ea] at eb
      cases eb
      exact Nat.lt_irrefl _ hk
    obtain ⟨ow4, S4⟩ := SttF.sink (A := (v, .d x.toD) :: pre) (B := stk cs ++ tmp) S3
    have r := S4.top
    exact k _ _ _ ((a', o) :: cs) _ (q2 a' hfr) ⟨F3, _, S4.pop.pushNew (o := .lst [x.toD, .adr a']) np ⟨_, upd_same, .cons r (.cons (.adr a') .nil)⟩⟩
/-! ### a row of values, the first with cells -/
def consKc (t : TDc) (r : TDK) : TDKc := fun δ cs Q E => t δ cs (fun x δ1 cs1 => r δ1 (fun xs δ2 => Q (x :: xs) δ2 cs1) E) E
theorem pkc_cons {e : Expr} {es : List Expr} {t : TDc} {r : TDK} (he : PE X e (LEc X.K c W t)) (hr : PA X es (LK X.K c W r)) (hs : starEach (e :: es) X.env = (false, eval e X.env) :: starEach es X.env := by rfl) : PA X (e :: es) (LKc X.K c W (consKc t r)) :=
  PA_imp (pa_cons he hr hs) fun σ H Q ⟨δ, cs, pre, tmp, Qd, Ed, S, t, k, w⟩ => ⟨δ, cs, pre, tmp, _, Ed, S, t, fun v x δ1 cs1 H1 q1 S1 => ⟨δ1, _, _, Ed, S1, q1, fun vs xs δ2 H2 q2 hl S2 => k _ _ _ cs1 _ q2 (congrArg (· + 1) hl) (by
    show Stt X.K c δ2 (((v, x) :: vs.zip xs).reverse ++ _) σ H2
    rw [List.reverse_cons, List.append_assoc]
    exact S2), ((w.app _).app _).push⟩, w⟩
def par3C (i j l : Nat) (oi oj ol : Bool) (t : TDKc) : TDSc := fun D δ cs => t δ cs (fun xs δ1 cs1 => ∃ x y z, xs = [x, y, z] ∧ D.nx (((δ1.set l (some (asD ol z))).set j (some (asD oj y))).set i (some (asD oi x))) cs1) D.ex
theorem psc_par3 {i j l : Nat} {oi oj ol : Bool} {x y z : Str} {a b e : Expr} {t : TDKc} {px py pz pt pos : Pos} {kt k2 pt2} (ha : PA X [a, b, e] (LKc X.K c W t)) (ni : i ∉ c.sl) (nj : j ∉ c.sl) (nl : l ∉ c.sl) (h : ∀ {ta : TA}, PA X [a, b, e] ta → PS X (.Assign [.Tuple [.Name x px, .Name y py, .Name z pz] k2 pt2] (.Tuple [a, b, e] kt pt) pos) (tPar3 i j l ta)) (hij : i ≠ j) (hil : i ≠ l) (hjl : j ≠ l) :
    PS X (.Assign [.Tuple [.Name x px, .Name y py, .Name z pz] k2 pt2] (.Tuple [a, b, e] kt pt) pos) (LSc X.K c W (par3C i j l oi oj ol t)) :=
  PS_imp (h ha) fun D σ H ⟨δ, cs, pre, tmp, Dd, S, q, k, kr, kb, kc, w⟩ => ⟨δ, cs, pre, tmp, _, _, S, q, fun vs xs δ' cs' H' ⟨x, y, z, e, q'⟩ hl S' => by
    subst e
    match vs, hl with
    | [v, u, s], _ =>
      obtain ⟨F, ow, S'⟩ := S'
      have S2 : SttF X.K c F ow δ' ((s, z) :: (u, y) :: (v, x) :: (pre ++ (stk cs' ++ tmp))) σ H' := S'
      obtain ⟨F3, S3⟩ := S2.top_as ol
      obtain ⟨F4, ow4, S4⟩ := S3.set' nl
      obtain ⟨F5, S5⟩ := S4.top_as oj
      obtain ⟨F6, ow6, S6⟩ := S5.set' nj
      obtain ⟨F7, S7⟩ := S6.top_as oi
      refine ⟨v, u, s, rfl, k _ _ _ _ q' ?_⟩
      rw [List.set_comm _ _ hjl, List.set_comm _ _ hil, List.set_comm _ _ hij]
      exact S7.set' ni, w⟩
/-! ### an item of an alias -/
def ixC (t : TD) (n : Int) : TDc := fun δ cs Q E => t δ (fun x δ1 => ∃ (a : Addr) (ds : List D) (d : D), x = .d (.adr a) ∧ (a, .lst ds) ∈ cs ∧ atI ds n = some d ∧ Q (.d d) δ1 cs) E
theorem pec_ix {a b : Expr} {t : TD} {n : Int} {pos : Pos} (ha : PE X a (LE X.K c W t)) (hb : PE X b (tC (.int n))) (hs : PlainIx b) : PE X (.Subscript a b pos) (LEc X.K c W (ixC t n)) :=
  PE_imp (pe_ix ix_list ha hb hs) fun σ H Q ⟨δ, cs, pre, tmp, Qd, Ed, S, q, k, w⟩ => by
    refine ⟨δ, _, _, _, S, q, fun v x δ1 H1 ⟨a, ds, d, e, hm, hd, q1⟩ ⟨F1, ow1, S1⟩ => ?_, (w.app _).app _⟩
    subst e
    cases (show Rep X.K F1 v (.adr a) from S1.tm.1)
    obtain ⟨l, r, e1⟩ := List.append_of_mem hm
    have S2 := S1.pop
    rw [e1] at S2
    have es : pre ++ (stk (l ++ (a, .lst ds) :: r) ++ tmp) = (pre ++ stk l) ++ (V.ref a, .own (.lst ds)) :: (stk r ++ tmp) := by simp [stk]
    have S3 := S2
    rw [es] at S3
    obtain ⟨p, e0, _, _, _, vs, ep, rv⟩ := S3.tm.mid
    cases e0
    obtain ⟨z, ez, rz⟩ := rv.ats hd
    refine ⟨a, vs, n, z, rfl, rfl, SqL.of ep, ez, k _ _ _ _ _ q1 ?_⟩
    exact ⟨F1, ow1, S1.pop.push rz⟩
/-- a test of two values by numbers -/
def cmpC (f : Int → Int → Bool) (t : TDc) (n : Int) : TDTc := fun δ cs Q E => t δ cs (fun x δ1 cs1 => ∃ i, x = .d (.int i) ∧ Q (f i n) δ1 cs1) E
theorem ptc_gt {a b : Expr} {t : TDc} {n : Int} {pos : Pos} (ha : PE X a (LEc X.K c W t)) (hb : PE X b (tC (.int n))) (hm : behindInMarks .Gt b = false) : PT X (.Compare a [.Gt] [b] pos) (LTc X.K c W (cmpC (fun i j => decide (i > j)) t n)) :=
  PT_imp (pt_cmpR op_gt ha hb hm) fun σ H Q ⟨δ, cs, pre, tmp, Qd, Ed, S, q, k, w⟩ => by
    refine ⟨δ, cs, pre, tmp, _, _, S, q, fun v x δ1 cs1 H1 ⟨i, e, q1⟩ ⟨F1, ow1, S1⟩ => ?_, w⟩
    subst e
    cases (show Rep X.K F1 v (.int i) from S1.tm.1)
    exact ⟨i, n, rfl, rfl, _, rfl, k _ _ _ _ q1 ⟨F1, ow1, S1.pop⟩⟩
/-! ### looking through the cells -/
/-- x is y when one looks through the cells -/
def Fill (K : PySem.W.Frag) (cs : Cells) (x y : D) : Prop := ∀ (F : Hp) (v : V), (∀ a o, (a, o) ∈ cs → Rep K F (.ref a) o.toD) → Rep K F v x → Rep K F v y
theorem OwnRep.rep {K : PySem.W.Frag} {F F1 H : Hp} {p : Addr} {o : OC} (r : OwnRep K F H p o) (e : F1 p = H p) (s : Same F F1) : Rep K F1 (.ref p) o.toD := by
  cases o with
  | lst ds => obtain ⟨vs, z, r⟩ := r; exact .lst (e.trans z) (r.mono s)
  | ins C fs => obtain ⟨dx, vs, z, r⟩ := r; exact .obj (e.trans z) (r.mono s)
  | dT kvs => obtain ⟨vs, z, r⟩ := r; exact .dT (.inl (e.trans z)) (r.mono s)
  | dK kvs => obtain ⟨vs, z, r⟩ := r; exact .dK (.inl (e.trans z)) (r.mono s)
  | tab P q => obtain ⟨a, _⟩ := r; subst a; exact .adr _
def lendC (K : PySem.W.Frag) (i j : Nat) (sd : SpD) : TDc := fun δ cs Q _ => ∃ (o : OC) (x y : D), δ[i]? = some (some (.own o)) ∧ δ[j]? = some (some (.d x)) ∧ Fill K cs o.toD y ∧ sd [.d y, .d x] (fun r os => os = [] ∧ ∃ z, r = .d z ∧ Pln z ∧ Q (.d z) δ cs) (fun _ _ => False)
theorem pec_lend {K : PySem.W.Frag} {k i j : Nat} {f : Addr} {fd : FuncData} {ps : List Str} {sd : SpD} {x y z : Str} {p pos py pz : Pos} (G : FnOk X.prog X.w X.K X.mg X.base (L2.CX X.prog X.w) k f fd ps (spOf X.K sd)) (hr : Room k X.A) (hg : Gl X x) (hm : X.mg x = some (.ref f)) (hk : PySem.W.keepIn X.K (.ref f) = true) (hb : Binds X.K fd ps []) (tk : Takes X W)
    (hy : PE X (.Name y py) (tVar i)) (hz : PE X (.Name z pz) (tVar j)) (hdb : (x == ("__debug__" : Str)) = false := by decide) (h1 : starEach [.Name y py, .Name z pz] X.env = (false, eval (.Name y py) X.env) :: starEach [.Name z pz] X.env := by rfl) (h2 : starEach [.Name z pz] X.env = (false, eval (.Name z pz) X.env) :: starEach [] X.env := by rfl) (hpl : (backTo pos (starEach [.Name z pz] X.env)).any (·.1) = false := by rfl) (hK : X.K = K := by rfl) :
    PE X (.Call (.Name x p) [.Name y py, .Name z pz] [] pos) (LEc X.K c W (lendC K i j sd)) := by
  subst hK
  exact PE_imp (pe_callSD (E := WE W) G hr hg hm hk hb .nil (fun σ => passAt tk σ) (pa_cons hy (pa_cons hz pa_nil h2) h1) hdb h1 hpl) fun σ H Q ⟨δ, cs, pre, tmp, Qd, Ed, ⟨F, ow, S⟩, ⟨o, dx, dy, ei, ej, hf, q⟩, kk, w⟩ => by
    obtain ⟨v, e1, p, rfl, ea, bF, w1, r1⟩ := S.sl _ _ ei
    obtain ⟨v2, e2, r2⟩ := S.sl _ _ ej
    refine ⟨_, e1, v2, e2, ?_⟩
    let L : List Addr := p :: cs.map (·.1)
    have ht := S.tm
    have hc : ∀ a o', (a, o') ∈ cs → F a = none ∧ OwnRep X.K F H a o' := fun a o' hm => by
      obtain ⟨k, _, q⟩ := RepTmp.own ht (List.mem_append_right pre (List.mem_append_left tmp (List.mem_map.mpr ⟨(a, o'), hm, rfl⟩)))
      obtain ⟨p', e0, _, b, _, r⟩ := q
      cases e0
      exact ⟨b, r⟩
    have hL : ∀ a ∈ L, F a = none ∧ H a ≠ none := fun a ha => by
      rcases List.mem_cons.mp ha with rfl | ha
      · exact ⟨bF, r1.has⟩
      · obtain ⟨⟨a', o'⟩, hm, rfl⟩ := List.mem_map.mp ha
        obtain ⟨b, r⟩ := hc _ _ hm
        exact ⟨b, r.has⟩
    let F1 : Hp := fun b => if b ∈ L then H b else F b
    have f1 : ∀ b, b ∈ L → F1 b = H b := fun b h => if_pos h
    have f2 : ∀ b, b ∉ L → F1 b = F b := fun b h => if_neg h
    have s1 : Same F F1 := fun b u e => by
      by_cases h : b ∈ L
      · rw [(hL b h).1] at e; cases e
      · rw [f2 b h]; exact e
    have s2 : Same F1 H := fun b u e => by
      by_cases h : b ∈ L
      · rw [f1 b h] at e; exact e
      · rw [f2 b h] at e; exact S.fh _ _ e
    have ry : Rep X.K F1 (.ref p) dy := hf F1 (.ref p) (fun a o' hm => (hc a o' hm).2.rep (f1 a (List.mem_cons_of_mem _ (List.mem_map.mpr ⟨(a, o'), hm, rfl⟩))) s1) (r1.rep (f1 p List.mem_cons_self) s1)
    refine ⟨F1, _, [], _, _, s2, .d ry (.d (Rep.mono s1 r2) .nil), q, fun u r os F' H' ⟨_, z, ez, hp, hq⟩ P rr => ?_, fun _ _ _ _ _ _ z _ _ => z.elim⟩
    subst ez
    have sFF' := s1.trans P.f
    let F'' : Hp := fun b => if b ∈ L then none else F' b
    have g1 : ∀ b, b ∈ L → F'' b = none := fun b h => if_pos h
    have g2 : ∀ b, b ∉ L → F'' b = F' b := fun b h => if_neg h
    have sF : Same F F'' := fun b u e => by
      have hb : b ∉ L := fun z => by rw [(hL b z).1] at e; cases e
      rw [g2 b hb]
      exact sFF' _ _ e
    have P' : Post X.K F H [] [] F'' H' := by
      refine ⟨sF, fun b u e => ?_, fun b u e n => P.fr b u e n, P.up, fun b hb => ?_, .nil⟩
      · by_cases h : b ∈ L
        · rw [g1 b h] at e; cases e
        · rw [g2 b h] at e; exact P.fh _ _ e
      · by_cases h : b ∈ L
        · rw [g1 b h] at hb; exact (hb rfl).elim
        · rw [g2 b h] at hb
          rcases P.nw b hb with z | z
          · rw [f2 b h] at z; exact .inl z
          · exact .inr z
    have S2 := S.called (is := []) (ps := []) (os := []) rfl (fun k i p e => nomatch e) .nil P'
    exact kk u (.d z) δ cs H' hq ⟨F'', ow, S2.push (hp.rep rr)⟩
/-! ### the end of a def: cells are looked through -/
def exitC (K : PySem.W.Frag) (t : TDSc) : TDS := fun D δ => t { nx := fun _ _ => False, rt := fun x δ' cs => ∃ z y, x = .d z ∧ Fill K cs z y ∧ D.rt (.d y) δ', ex := D.ex } δ []
theorem frz_all {K : PySem.W.Frag} {H : Hp} {ow : Addr → Option Hold} {δ : DSt} {σ : L2.St} {tmp : List (V × DV)} : ∀ {cs : Cells} {F : Hp}, SttF K c F ow δ (stk cs ++ tmp) σ H → ∃ F', SttF K c F' ow δ tmp σ H ∧ Same F F' ∧ ∀ a o, (a, o) ∈ cs → Rep K F' (.ref a) o.toD
  | [], F, S => ⟨F, S, Same.refl F, fun a o h => nomatch h⟩
  | (a, o) :: cs, F, S => by
    obtain ⟨F1, S1, s1⟩ := S.top_frz
    obtain ⟨F2, S2, s2, h⟩ := frz_all (cs := cs) S1.pop
    refine ⟨F2, S2, s1.trans s2, fun b o' hm => ?_⟩
    rcases List.mem_cons.mp hm with e | hm
    · cases e; exact Rep.mono s2 S1.top
    · exact h b o' hm
theorem pss_exit {K : PySem.W.Frag} {body : List Stmt} {t : TDSc} (h : PSs X body (LSc X.K c W t)) (hK : X.K = K := by rfl) : PSs X body (LS X.K c W (exitC K t)) := by
  subst hK
  exact PSs_imp h fun D σ H ⟨δ, tmp, Dd, S, q, k, kr, kb, kc, w⟩ => ⟨δ, [], [], tmp, _, S, q, fun _ _ _ _ z _ => z.elim, fun v x δ' cs' σ' H' ⟨z, y, e, hf, q'⟩ ⟨F, ow, S'⟩ => by
    subst e
    obtain ⟨F', S2, s, hc⟩ := frz_all (cs := cs') S'.pop
    exact kr v (.d y) δ' σ' H' q' ⟨F', ow, S2.push (hf F' v hc (Rep.mono s S'.top))⟩, fun _ _ _ _ z _ => z.elim, fun _ _ _ _ z _ => z.elim, w⟩
end
end DL
/-! ### readings -/
namespace DR
open PySem PySem.Spec PyProof.Rows L2 DL
theorem exitC {K : PySem.W.Frag} {t : TDSc} {D : EndsD} {δ : DSt} (h : t { nx := fun _ _ => False, rt := fun x δ' cs => ∃ z y, x = .d z ∧ Fill K cs z y ∧ D.rt (.d y) δ', ex := D.ex } δ []) : DL.exitC K t D δ := h
theorem cutC {t u : TDSc} {D : EndsC} {δ : DSt} {cs : Cells} (I : DSt → Cells → Prop) (h1 : ∀ N : DSt → Cells → Prop, (∀ δ cs, I δ cs → N δ cs) → t { D with nx := N } δ cs) (h2 : ∀ δ cs, I δ cs → u D δ cs) : seqC t u D δ cs := h1 _ h2
theorem upC {t : TDS} {D : EndsC} {δ : DSt} {cs : Cells} (h : t { nx := fun δ' => D.nx δ' cs, rt := fun x δ' => D.rt x δ' cs, ex := D.ex, bk := fun δ' => D.bk δ' cs, ct := fun δ' => D.ct δ' cs } δ) : upS t D δ cs := h
theorem forC {ti : TDI} {g : TDG} {tb : TDSc} {D : EndsC} {δ : DSt} {cs : Cells} (h : ti δ (fun xs δ1 => forDC g tb D xs δ1 cs) D.ex) : DL.forC ti g tb D δ cs := h
theorem forC_inv {g : TDG} {tb : TDSc} {D : EndsC} {xs : List DL.D} {δ : DSt} {cs : Cells} (I : Nat → DSt → Cells → Prop) (h0 : I 0 δ cs)
    (hs : ∀ i x δ cs (N : DSt → Cells → Prop), xs[i]? = some x → I i δ cs → (∀ δ' cs', I (i + 1) δ' cs' → N δ' cs') → g x δ (fun δ1 => tb { nx := N, ct := N, bk := D.nx, ex := D.ex, rt := fun _ _ _ => False } δ1 cs))
    (hn : ∀ δ cs, I xs.length δ cs → D.nx δ cs) : forDC g tb D xs δ cs := by
  have go : ∀ (m i : Nat) δ cs, i + m = xs.length → I i δ cs → forDC g tb D (xs.drop i) δ cs := fun m => by
    induction m with
    | zero =>
      intro i δ cs e h
      have e : i = xs.length := e
      subst e
      rw [List.drop_length]
      exact hn δ cs h
    | succ m ih =>
      intro i δ cs e h
      have hl : i < xs.length := by omega
      rw [List.drop_eq_getElem_cons hl]
      exact hs i _ δ cs _ (List.getElem?_eq_getElem hl) h fun δ' cs' h' => ih (i + 1) δ' cs' (by omega) h'
  have := go xs.length 0 δ cs (Nat.zero_add _) h0
  rwa [List.drop_zero] at this
theorem lcC_inv {g : TDG} {tt : TDTc} {te : TDc} {vs : List Nat} {xs acc : List DL.D} {δ : DSt} {cs : Cells} {Q : List DL.D → DSt → Cells → Prop} (I : Nat → List DL.D → DSt → Cells → Prop) (h0 : I 0 acc δ cs)
    (hs : ∀ i x acc δ cs (N : List DL.D → DSt → Cells → Prop), xs[i]? = some x → I i acc δ cs → (∀ acc' δ' cs', I (i + 1) acc' δ' cs' → N acc' δ' cs') →
      g x δ (fun δ1 => tt δ1 cs (fun b δ2 cs2 => if b = true then te δ2 cs2 (fun y δ3 cs3 => acc.length < sizeLine ∧ N (acc ++ [y.toD]) (wipeD δ3 vs) cs3) noX else N acc (wipeD δ2 vs) cs2) noX))
    (hn : ∀ acc δ cs, I xs.length acc δ cs → Q acc δ cs) : lcC g tt te vs xs acc δ cs Q := by
  have go : ∀ (m i : Nat) acc δ cs, i + m = xs.length → I i acc δ cs → lcC g tt te vs (xs.drop i) acc δ cs Q := fun m => by
    induction m with
    | zero =>
      intro i acc δ cs e h
      have e : i = xs.length := e
      subst e
      rw [List.drop_length]
      exact hn acc δ cs h
    | succ m ih =>
      intro i acc δ cs e h
      have hl : i < xs.length := by omega
      rw [List.drop_eq_getElem_cons hl]
      exact hs i _ acc δ cs _ (List.getElem?_eq_getElem hl) h fun acc' δ' cs' h' => ih (i + 1) acc' δ' cs' (by omega) h'
  have := go xs.length 0 acc δ cs (Nat.zero_add _) h0
  rwa [List.drop_zero] at this
end DR
namespace DL
open PySem PySem.Spec PyProof.Rows L2
section
variable {K : PySem.W.Frag} {cs : Cells} {x y : D} {xs ys : List D}
def FillL (K : PySem.W.Frag) (cs : Cells) (xs ys : List D) : Prop := ∀ (F : Hp) (vs : List V), (∀ a o, (a, o) ∈ cs → Rep K F (.ref a) o.toD) → RepL K F vs xs → RepL K F vs ys
theorem Fill.refl : Fill K cs x x := fun _ _ _ r => r
theorem Fill.adr {a : Addr} {o : OC} (h : (a, o) ∈ cs) : Fill K cs (.adr a) o.toD := fun F v hc r => by
  cases r
  exact hc a o h
theorem FillL.nil : FillL K cs [] [] := fun _ _ _ r => r
theorem FillL.cons (h : Fill K cs x y) (t : FillL K cs xs ys) : FillL K cs (x :: xs) (y :: ys) := fun F vs hc r => by
  cases r with
  | cons r rs => exact .cons (h F _ hc r) (t F _ hc rs)
theorem FillL.app {us zs : List D} : ∀ {xs ys : List D}, FillL K cs xs ys → xs.length = ys.length → FillL K cs us zs → FillL K cs (xs ++ us) (ys ++ zs)
  | [], [], _, _, h => h
  | x :: xs, y :: ys, h, e, t => fun F vs hc r => by
    cases r with
    | @cons v _ ws _ r rs =>
      have go : ∀ {as : List D} {ws : List V}, RepL K F ws (as ++ us) → ∃ w1 w2, ws = w1 ++ w2 ∧ RepL K F w1 as ∧ RepL K F w2 us := fun {as} => by
        induction as with
        | nil => exact fun {ws} r => ⟨[], ws, rfl, .nil, r⟩
        | cons a as ih => intro ws r; cases r with
          | cons r rs => obtain ⟨w1, w2, e, r1, r2⟩ := ih rs; exact ⟨_ :: w1, w2, by rw [e]; rfl, .cons r r1, r2⟩
      obtain ⟨w1, w2, e2, r1, r2⟩ := go rs
      rw [e2]
      exact (h F (v :: w1) hc (.cons r r1)).app (t F w2 hc r2)
  | [], _ :: _, _, e, _ => nomatch e
  | _ :: _, [], _, e, _ => nomatch e
theorem FillL.map {α : Type} {f g : α → D} : ∀ {l : List α}, (∀ a ∈ l, Fill K cs (f a) (g a)) → FillL K cs (l.map f) (l.map g)
  | [], _ => .nil
  | a :: l, h => .cons (h a List.mem_cons_self) (FillL.map fun b hb => h b (List.mem_cons_of_mem _ hb))
theorem Fill.lst (h : FillL K cs xs ys) : Fill K cs (.lst xs) (.lst ys) := fun F v hc r => by
  cases r with
  | lst s r => exact .lst s (h F _ hc r)
theorem Fill.tup (h : FillL K cs xs ys) : Fill K cs (.tup xs) (.tup ys) := fun F v hc r => by
  cases r with
  | tup s r => exact .tup s (h F _ hc r)
theorem ptsc_one {X : Cx} {c : Fc} {W : WX} {e : Expr} {t : TDTc} (h : PT X e (LTc X.K c W t)) : PTs X [e] (LTc X.K c W t) := pts_one h
/-- a cell's content is changed; the others stay -/
theorem cells_set {cs : Cells} {k : Nat} {a b : Addr} {o o' ob : OC} (h : cs[k]? = some (a, o)) (hb : (b, ob) ∈ cs) (n : b ≠ a) : (b, ob) ∈ cs.set k (a, o') := by
  obtain ⟨l, r, e1, e2⟩ := cells_at h
  rw [e2]
  rw [e1] at hb
  rcases List.mem_append.mp hb with hb | hb
  · exact List.mem_append_left _ hb
  · rcases List.mem_cons.mp hb with hb | hb
    · cases hb; exact absurd rfl n
    · exact List.mem_append_right _ (List.mem_cons_of_mem _ hb)
theorem cells_new {cs : Cells} {k : Nat} {a : Addr} {o o' : OC} (h : cs[k]? = some (a, o)) : (a, o') ∈ cs.set k (a, o') ∧ (cs.set k (a, o')).map (·.1) = cs.map (·.1) := by
  obtain ⟨l, r, e1, e2⟩ := cells_at h
  rw [e2]
  exact ⟨List.mem_append_right _ List.mem_cons_self, by rw [e1]; simp⟩
end
end DL
namespace DR
open PySem PySem.Spec PyProof.Rows L2 DL
section
variable {δ : DSt} {cs : Cells} {Q : DV → DSt → Cells → Prop} {E : XD} {D : EndsC}
theorem par3C {i j l : Nat} {oi oj ol : Bool} {t : TDKc} (h : t δ cs (fun xs δ1 cs1 => ∃ x y z, xs = [x, y, z] ∧ D.nx (((δ1.set l (some (asD ol z))).set j (some (asD oj y))).set i (some (asD oi x))) cs1) D.ex) : DL.par3C i j l oi oj ol t D δ cs := h
theorem consKc {t : TDc} {r : TDK} {Q : List DV → DSt → Cells → Prop} (h : t δ cs (fun x δ1 cs1 => r δ1 (fun xs δ2 => Q (x :: xs) δ2 cs1) E) E) : DL.consKc t r δ cs Q E := h
theorem compC {ti : TDI} {g : TDG} {tt : TDTc} {te : TDc} {vs : List Nat} (h : ti δ (fun xs δ1 => lcC g tt te vs xs [] (wipeD δ1 vs) cs fun acc δ2 cs2 => Q (.own (.lst acc)) δ2 cs2) E) : DL.compC ti g tt te vs δ cs Q E := h
theorem setC {i : Nat} {o : Bool} {t : TDc} (h : t δ cs (fun x δ1 cs1 => D.nx (δ1.set i (some (asD o x))) cs1) D.ex) : DL.setC i o t D δ cs := h
theorem cell2 {t u : TD} (h : t δ (fun x δ1 => u δ1 (fun y δ2 => ∃ o, y = .own o ∧ ∀ a, a ∉ cs.map (·.1) → Q (.own (.lst [x.toD, .adr a])) δ2 ((a, o) :: cs)) E) E) : DL.cell2 t u δ cs Q E := h
theorem upE {t : TD} (h : t δ (fun x δ' => Q x δ' cs) E) : DL.upE t δ cs Q E := h
theorem upT {t : TDT} {Q : Bool → DSt → Cells → Prop} (h : t δ (fun x δ' => Q x δ' cs) E) : DL.upT t δ cs Q E := h
theorem withC {i k : Nat} {t : TDS} {a : Addr} {o : OC} (h1 : δ[i]? = some (some (.d (.adr a)))) (h2 : cs[k]? = some (a, o))
    (h : t { nx := fun δ' => ∃ o', δ'[i]? = some (some (.own o')) ∧ D.nx (δ'.set i (some (.d (.adr a)))) (cs.set k (a, o')), rt := fun _ _ => False, ex := fun _ _ => False } (δ.set i (some (.own o)))) : DL.withC i t D δ cs := ⟨k, a, o, h1, h2, h⟩
theorem ixC {t : TD} {n : Int} (h : t δ (fun x δ1 => ∃ (a : Addr) (ds : List DL.D) (d : DL.D), x = .d (.adr a) ∧ (a, .lst ds) ∈ cs ∧ atI ds n = some d ∧ Q (.d d) δ1 cs) E) : DL.ixC t n δ cs Q E := h
theorem cmpC {f : Int → Int → Bool} {t : TDc} {n : Int} {Q : Bool → DSt → Cells → Prop} (h : t δ cs (fun x δ1 cs1 => ∃ i, x = .d (.int i) ∧ Q (f i n) δ1 cs1) E) : DL.cmpC f t n δ cs Q E := h
theorem seqC {t u : TDSc} (h : t { D with nx := u D } δ cs) : DL.seqC t u D δ cs := h
end
theorem cells_same {cs : Cells} {k : Nat} {a : Addr} {o : OC} (h : cs[k]? = some (a, o)) : cs.set k (a, o) = cs := by
  obtain ⟨l, r, e1, e2⟩ := cells_at h
  rw [e2, e1]
end DR

set_option Elab.async false
set_option linter.all false
set_option maxRecDepth 100000
set_option maxHeartbeats 2000000
/-! LamK: a lambda with one parameter, made and called -/
namespace LamY
open PySem PySem.Spec PyProof.Rows L2 LamX
/-- the object at f is the lambda -/
def FnL (f : Addr) (q : Str) (params : Arguments) (body : Expr) (scope : Scope) (cl : List (Str × Addr)) (c' : Addr) : HO := .ext fun h => ∃ pm ctv : Value, h.get? f = some (PySem.W.kla_obj "<lambda>" q params body scope cl pm c' ctv)
structure LamH (H H1 : Hp) (P f c' : Addr) (q : Str) (ps ps' : Array Value) (o : HO) : Prop where
  same : ∀ b, b ≠ P → b ≠ c' → b ≠ f → H1 b = H b
  tP : H1 P = some (.tbl ps')
  ok : TriplesOk ps'.toList
  am : ∀ (pos : Pos) (cv : Value), codeAmong pos ps'.toList = some cv → codeAmong pos ps.toList = some cv ∨ cv = .ref c'
  c0 : H c' = none ∨ ∃ pos, codeAmong pos ps.toList = some (.ref c')
  c1 : H1 c' = some (CodeO c' q)
  f0 : H f = none
  f1 : H1 f = some o
  fc : f ≠ c'
  fP : f ≠ P
  cP : c' ≠ P
section
variable {X : Cx} {pins : List (Addr × Obj)} {σ : L2.St} {H : Hp} {s : Shared}
theorem inv_lam {f c' : Addr} {q : Str} {params : Arguments} {body : Expr} {scope : Scope} {cl : List (Str × Addr)} {pm ctv : Value} {t' : Nat} {h' : Heap} (I : Inv X pins σ H s) (k : ∀ b o, s.heap.get? b = some o → h'.get? b = some o) (hf : s.heap.objs.size ≤ f) (e : h'.get? f = some (PySem.W.kla_obj "<lambda>" q params body scope cl pm c' ctv)) :
    Inv X pins σ (upd H f (FnL f q params body scope cl c')) { s with heap := h', toks := t' } :=
  I.laid (a := f) (fun b u e => k b u e) hf ⟨⟨pm, ctv, e⟩, ⟨_, e⟩, fun h1 h2 ⟨p, t, z⟩ st => ⟨p, t, st _ z⟩⟩
theorem lam_make3 {c P : Addr} {q : Str} {params : Arguments} {body : Expr} {scope : Scope} {pos : Pos} {ps : Array Value} {E : Value → Shared → Prop} {Q : Value → Shared → Prop} (I : Inv X pins σ H s) (TB : TabB X.base X.mg c P) (hcode : X.env.code = .ref c) (hq : X.env.qual ++ "<lambda>" = q)
    (hP : H P = some (.tbl ps)) (ht : TriplesOk ps.toList) (ha : ∀ (pos : Pos) (cv : Value), codeAmong pos ps.toList = some cv → ∃ c, cv = .ref c ∧ H c = some (CodeO c q)) (hdef : defaultsOf params X.env = ([], [])) (hfree : ∀ y ∈ scope.names, y.2 = .free → ∃ c, X.env.cells.lookup y.1 = some c)
    (h : ∀ (f c' : Addr) (ps' : Array Value) (H1 : Hp) (s' : Shared), Inv X pins σ H1 s' → LamH H H1 P f c' q ps ps' (FnL f q params body scope (cloFrom X.env.cells scope.names []) c') → Q (.ref f) s') :
    wpAny (model X.prog X.w) X.A (eval (.Lambda params body scope pos) X.env) Q E s := by
  subst hq
  refine PySem.W.kla_eval hdef ?_
  have bP : s.heap.BuiltinsAt X.mg P := TB.bm.keeps I.bk
  have hP' : s.heap.get? P = some { cls := .none, data := .fields ps } := I.hok P _ hP
  cases hc : codeAmong pos ps.toList with
  | none =>
    refine PySem.W.kla_makeFunction (mg := X.mg) (c := c) (P := P) (ps := ps) (closure_ok hfree) I.ok.glob (I.mod.glob.keeps I.bk) hcode (TB.code.keeps I.bk) hP' ht hc TB.gP bP fun c' ctv h' tk hx hge hlt hrec htb => ?_
    obtain ⟨c2, oc, vs, t, e2, hoc, hd, hv⟩ := hrec
    cases e2
    have nC : H c' = none := I.hok.fresh hge
    have I1 := inv_table (t' := tk) (more := #[rawInt pos.line, rawInt pos.col, .ref c']) (h' := h') I hP (fun b o hb e => hx b o hb e) htb hge ⟨oc, vs, t, hoc, hd, hv⟩
    have nF := I1.hok.fresh (Nat.le_refl _)
    have nF0 : H h'.objs.size = none := I.hok.fresh (Nat.le_trans hge (Nat.le_of_lt hlt))
    have I2 := inv_lam (f := h'.objs.size) (t' := tk) (c' := c') (q := X.env.qual ++ "<lambda>") (params := params) (body := body) (scope := scope) (cl := cloFrom X.env.cells scope.names []) (pm := (X.mg "__name__").getD .none) (ctv := ctv) (h' := h'.push (PySem.W.kla_obj "<lambda>" (X.env.qual ++ "<lambda>") params body scope (cloFrom X.env.cells scope.names []) ((X.mg "__name__").getD .none) c' ctv)) I1 (fun b o e => Heap.get?_push_of_some _ e) (Nat.le_refl _) (Heap.get?_push_size _ rfl)
    have nPc : P ≠ c' := ne_of_none hP nC
    have nPf : P ≠ h'.objs.size := ne_of_none hP nF0
    have ncf : c' ≠ h'.objs.size := Nat.ne_of_lt hlt
    have eL : (ps ++ #[rawInt pos.line, rawInt pos.col, .ref c']).toList = ps.toList ++ [rawInt pos.line, rawInt pos.col, .ref c'] := by simp
    refine h h'.objs.size c' (ps ++ #[rawInt pos.line, rawInt pos.col, .ref c']) _ _ I2 ⟨fun b h1 h2 h3 => ?_, ?_, by rw [eL]; exact PySem.TriplesOk_snoc _ _ _ _ ht, fun p' cv hcv => ?_, .inl nC, ?_, nF0, upd_same, ncf.symm, nPf.symm, nPc.symm⟩
    · rw [upd_ne h3, upd_ne h2, upd_ne h1]
    · rw [upd_ne nPf, upd_ne nPc, upd_same]
    · rw [eL] at hcv
      exact among_app _ ht hcv
    · rw [upd_ne ncf, upd_same]
  | some cv =>
    obtain ⟨c', e, hco⟩ := ha pos cv hc
    subst e
    refine PySem.W.kla_makeFunctionHit (mg := X.mg) (c := c) (P := P) (ps := ps) (closure_ok hfree) I.ok.glob (I.mod.glob.keeps I.bk) hcode (TB.code.keeps I.bk) hP' ht hc bP fun ctv h' tk hx hsz => ?_
    have nF0 : H h'.objs.size = none := I.hok.fresh hsz
    have I2 := inv_lam (f := h'.objs.size) (t' := tk) (c' := c') (q := X.env.qual ++ "<lambda>") (params := params) (body := body) (scope := scope) (cl := cloFrom X.env.cells scope.names []) (pm := (X.mg "__name__").getD .none) (ctv := ctv) (h' := h'.push (PySem.W.kla_obj "<lambda>" (X.env.qual ++ "<lambda>") params body scope (cloFrom X.env.cells scope.names []) ((X.mg "__name__").getD .none) c' ctv)) I (fun b o e => Heap.get?_push_of_some _ (hx b o e)) hsz (Heap.get?_push_size _ rfl)
    have nPf : P ≠ h'.objs.size := ne_of_none hP nF0
    have ncf : c' ≠ h'.objs.size := ne_of_none hco nF0
    refine h h'.objs.size c' ps _ _ I2 ⟨fun b h1 h2 h3 => upd_ne h3, ?_, ht, fun p' cv hcv => .inl hcv, .inr ⟨pos, hc⟩, ?_, nF0, upd_same, ncf.symm, nPf.symm, fun e => ?_⟩
    · rw [upd_ne nPf]; exact hP
    · rw [upd_ne ncf]; exact hco
    · rw [e, hP] at hco
      exact codeO_ne _ (Option.some.inj hco).symm
end
/-! ### its names: one parameter, captured names and globals -/
structure LamS1 (sc scope : Scope) (a : Str) : Prop where
  kind : scope.kind = .function
  co : scope.isCoroutine = false
  gen : scope.isGenerator = false
  par : scope.names.lookup a = some .local
  own : ∀ y ∈ scope.names, y.2 ≠ .cell ∧ (y.2 = .local → y.1 = a)
  free : ∀ y ∈ scope.names, y.2 = .free → sc.names.lookup y.1 = some .cell ∨ sc.names.lookup y.1 = some .free
def lamSB1 (sc scope : Scope) (a : Str) : Bool :=
  decide (scope.kind = .function) && !scope.isCoroutine && !scope.isGenerator && decide (scope.names.lookup a = some .local) && scope.names.all fun y => !decide (y.2 = .cell) && (!decide (y.2 = .local) || decide (y.1 = a)) && (!decide (y.2 = .free) || decide (sc.names.lookup y.1 = some .cell) || decide (sc.names.lookup y.1 = some .free))
theorem lamS1_by {sc scope : Scope} {a : Str} (h : lamSB1 sc scope a = true) : LamS1 sc scope a := by
  unfold lamSB1 at h
  simp only [Bool.and_eq_true, Bool.or_eq_true, Bool.not_eq_true', decide_eq_true_eq, decide_eq_false_iff_not, List.all_eq_true] at h
  obtain ⟨⟨⟨⟨h1, h2⟩, h3⟩, h5⟩, h4⟩ := h
  refine ⟨h1, h2, h3, h5, fun y hy => ⟨(h4 y hy).1.1, fun e => ((h4 y hy).1.2).elim (fun z => absurd e z) id⟩, fun y hy e => ?_⟩
  rcases (h4 y hy).2 with (z | z) | z
  · exact absurd e z
  · exact .inl z
  · exact .inr z
theorem LamS1.has {X : Cx} {scope : Scope} {a : Str} (L : LamS1 X.env.scope scope a) (ok : X.Ok) : ∀ y ∈ scope.names, y.2 = .free → ∃ c, X.env.cells.lookup y.1 = some c := fun y hy e => by
  rcases L.free y hy e with k | k
  · exact ok.has _ (.inl k)
  · exact ok.has _ (.inr k)
section
variable {X : Cx} {pins : List (Addr × Obj)} {σ : L2.St} {H : Hp} {s : Shared}
theorem lam_start1 {A : Around} {E : XK} {scope : Scope} {a : Str} {i : Nat} {f c' : Addr} {h₁ : Heap} {tk : Nat} {v : V} {u : Value} (I : Inv X pins σ H s) (L : LamS1 X.env.scope scope a) (e0 : Env0 X.prog X.w X.K X.mg X.base A X.stack s H) (hd : A.handled = none) (hN : X.N.Nodup) (hi : X.N[i]? = some a) (r : RelV v u)
    (hns : h₁.Ns s.heap.objs.size fun y => ([(a, u)] : List (Str × Value)).reverse.lookup y) (kp : ∀ b o, s.heap.get? b = some o → h₁.get? b = some o) :
    Inv (lamCx X A X.stack s H E scope f c') [] (σ.set i (some v)) H { s with heap := h₁, toks := tk } := by
  have hfree := L.has I.ok
  have cm : ∀ {y c}, (cloFrom X.env.cells scope.names []).lookup y = some c → X.env.cells.lookup y = some c := fun {y c} e => by
    rcases cloFrom_mem (PySem.mem_of_lookup e) with hm | ⟨h1, h2⟩
    · cases hm
    · obtain ⟨c1, hc⟩ := hfree _ h1 rfl
      have hc : X.env.cells.lookup y = some c1 := hc
      have e2 : c = c1 := by
        rw [h2, hc] <;> rfl
      rw [e2]
      exact hc
  have look : ∀ {y}, scope.names.lookup y = some .free → ∃ c, (cloFrom X.env.cells scope.names []).lookup y = some c := fun {y} hl => by
    have hy : (y, NameKind.free) ∈ scope.names := PySem.mem_of_lookup hl
    exact mem_lookup (cloFrom_has (cells := X.env.cells) (acc := []) hy)
  have cellK : ∀ {c : Addr} {v : Option Value}, s.heap.IsCell c v → h₁.IsCell c v := fun {c v} ⟨o, ho, hd⟩ => ⟨_, kp _ _ ho, hd⟩
  have noA : ∀ b : Addr, b ∉ (lamCx X A X.stack s H E scope f c').ex := fun b z => absurd (show b ∈ ([] : List Addr) from z) (by simp)
  refine ⟨⟨e0.mod, L.kind, rfl, rfl, Nat.le_refl _, fun y z c e1 e2 => I.ok.inj y z c (cm e1) (cm e2), fun y hy => ?_, fun y c z _ => ?_, fun _ => hd, Around.frames_deeper e0.frames, .inr ⟨rfl, rfl⟩, fun b z => absurd z (noA b), e0.bs, e0.bsz, fun b _ _ => noA b,
      fun b z => absurd z (noA b), e0.funs, e0.frf⟩,
    rfl, e0.bare, Un.kept kp, ⟨_, hns, fun j y w e1 e2 e3 => ?_⟩, fun y c e => ?_, e0.hok.fresh (Nat.le_refl _), fun y c e => ?_, fun q hq => absurd (show q ∈ ([] : List (Addr × Obj)) ++ [] from hq) (by simp), e0.hok.kept kp, by rw [List.length_set]; exact I.len⟩
  · have hy : scope.names.lookup y = some .cell ∨ scope.names.lookup y = some .free := hy
    rcases hy with hy | hy
    · exact absurd rfl (L.own _ (PySem.mem_of_lookup hy)).1
    · exact look hy
  · have z : false = true := z
    cases z
  · have e1 : X.N[j]? = some y := e1
    have e3 : Vis scope y := e3
    have uniq : y = a → j = i := fun z => by
      subst z
      obtain ⟨h1, h2⟩ := List.getElem?_eq_some_iff.mp e1
      obtain ⟨h3, h4⟩ := List.getElem?_eq_some_iff.mp hi
      exact (List.getElem_inj hN).mp (h2.trans h4.symm)
    rcases e3 with k | k | k
    · have ya := (L.own _ (PySem.mem_of_lookup k)).2 rfl
      have ya : y = a := ya
      have ji := uniq ya
      subst ji
      subst ya
      rw [List.getElem?_set_self (by rw [I.len]; exact (List.getElem?_eq_some_iff.mp hi).1)] at e2
      cases e2
      refine ⟨u, r, .inl ⟨k, ?_⟩⟩
      show ([(y, u)] : List (Str × Value)).lookup y = some u
      rw [List.lookup_cons, beq_self_eq_true]
    · exact absurd rfl (L.own _ (PySem.mem_of_lookup k)).1
    · have ne : i ≠ j := fun z => by
        subst z
        rw [hi] at e1
        cases e1
        rw [L.par] at k
        cases k
      rw [List.getElem?_set_ne ne] at e2
      obtain ⟨m, hn, hl⟩ := I.loc
      have hvis : Vis X.env.scope y := (L.free _ (PySem.mem_of_lookup k) rfl).elim (fun k => .inr (.inl k)) (fun k => .inr (.inr k))
      obtain ⟨w', r, q⟩ := hl j y w e1 e2 hvis
      obtain ⟨c2, h2⟩ := look k
      refine ⟨w', r, .inr ⟨.inr k, c2, h2, ?_⟩⟩
      have c1 := cm h2
      rcases q with ⟨k', _⟩ | ⟨_, c3, e', z⟩
      · have k' : X.env.scope.names.lookup y = some .local := k'
        rcases L.free _ (PySem.mem_of_lookup k) rfl with k2 | k2 <;> rw [show X.env.scope.names.lookup y = _ from k2] at k' <;> cases k'
      · rw [c1] at e'
        cases e'
        exact cellK z
  · obtain ⟨w', z⟩ := I.cell y c (cm e)
    exact ⟨w', cellK z⟩
  · exact I.freeC y c (cm e)
/-- the lambda called at a value -/
theorem lam_run {scope : Scope} {a q : Str} {i k : Nat} {f c' : Addr} {params : Arguments} {body : Expr} {v : V} {u : Value} {tb : TE} {Q : VK} (I : Inv X pins σ H s) (L : LamS1 X.env.scope scope a) (hq : X.env.qual ++ "<lambda>" = q) (hf : H f = some (FnL f q params body scope (cloFrom X.env.cells scope.names []) c')) (hc : H c' = some (CodeO c' q))
    (hbind : ∀ (cl : List (Str × Addr)) (pm cv ctv u : Value), bindArgs (PySem.W.kla_fn "<lambda>" q params body scope cl pm cv ctv) ⟨[u], []⟩ = pure [(a, u)]) (hr : Room (k + 1) X.A.in1.in1) (hN : X.N.Nodup) (hi : X.N[i]? = some a) (r : RelV v u)
    (hbody : ∀ (A : Around) (s : Shared) (H : Hp), Room k (A.deeper (lamEnv X scope s.heap.objs.size f c')) → PE (lamCx X A X.stack s H (fun _ _ _ => False) scope f c') body tb) (h : tb (σ.set i (some v)) H Q) :
    wpAny (model X.prog X.w) X.A.in1.in1 (call (.ref f) [u]) (EP X pins σ Q) (fun _ _ => False) s := by
  subst hq
  obtain ⟨⟨pm, ctv, of1⟩, _, _⟩ := I.hok f _ hf
  obtain ⟨⟨oc, vs, t, hoc, hdc, hvc⟩, _, _⟩ := I.hok c' _ hc
  have e0 := I.env0.in1.in1
  have rc : codeAny (model X.prog X.w) X.A.in1.in1 (.call (.ref f) ⟨[u], []⟩) (CR (L2.CX X.prog X.w) X.stack X.prog X.w H s Q (fun _ _ _ => False)) s := by
    refine PySem.W.kla_callFunE hr.depth of1 rfl L.co L.gen rfl ⟨c', oc, vs, t, rfl, hoc, hdc, hvc⟩ ?_
    rw [hbind]
    refine wpAny_pure (wpAny_newFunctionEnv (fun y hy => (L.own y hy).1) (fun y hy => by rw [List.mem_singleton.mp hy]; exact L.par) (fun h₁ hns hsb => ⟨I.nolimit.fresh _ hsb, ?_⟩) L.kind)
    show codeAny _ _ (.expr body (lamEnv X scope s.heap.objs.size f c')) _ _
    have kp : ∀ b o, s.heap.get? b = some o → h₁.get? b = some o := fun b o e => hsb.extBut b o (Nat.ne_of_lt (Heap.lt_size e)) (Heap.get?_push_of_some _ e)
    have J : Inv (lamCx X X.A.in1.in1 X.stack s H (fun _ _ _ => False) scope f c') [] (σ.set i (some v)) H { s with heap := h₁, toks := s.toks + ([(a, u)] : List (Str × Value)).length } :=
      lam_start1 I L e0 hr.hd hN hi r hns kp
    refine PySem.W.kla_codeExpr (wpAny_mono ((hbody _ s H (hr.deeper _)).run [] _ _ H Q J h) (fun v s' hq => ?_) fun e s' hq => hq)
    obtain ⟨w', H', J', rv, q⟩ := hq
    exact ⟨w', H', J'.os, J'.bare, J'.base, J'.hok, rv, q⟩
  refine wpAny_call (codeAny_mono rc fun r s' hq => ?_)
  cases r with
  | error e => obtain ⟨_, _, _, _, _, _, _, _, _, _, _, _, hE⟩ := hq; exact hE.elim
  | ok fl =>
    cases fl with
    | ret u => exact I.after hq
    | next => exact False.elim hq
    | brk => exact False.elim hq
    | cont => exact False.elim hq
end
end LamY

set_option Elab.async false
set_option linter.all false
set_option maxRecDepth 100000
set_option maxHeartbeats 2000000
/-! DL75: sorted(xs, key=lambda x: ..): the table of code objects is a cell -/
namespace DL
open PySem PySem.Spec PyProof.Rows L2
section
variable {K : PySem.W.Frag} {c c' : Fc} {F F' H H' H1 : Hp} {ow ow' : Addr → Option Hold} {δ : DSt} {σ : L2.St} {v : V} {x : DV}
theorem RepTmp.change {v : V} {x y : DV} {B : List (V × DV)} (n : ∀ k v x, k ≠ B.length → RepV K c F H ow (.t k) v x → RepV K c' F' H' ow' (.t k) v x) (r : RepV K c' F' H' ow' (.t B.length) v y) : ∀ {A : List (V × DV)}, RepTmp K c F H ow (A ++ (v, x) :: B) → RepTmp K c' F' H' ow' (A ++ (v, y) :: B)
  | [], q => ⟨r, by
      have go : ∀ {l : List (V × DV)}, l.length ≤ B.length → RepTmp K c F H ow l → RepTmp K c' F' H' ow' l := fun {l} => by
        induction l with
        | nil => exact fun _ _ => True.intro
        | cons e l ih =>
          obtain ⟨u, z⟩ := e
          exact fun hl q => ⟨n _ _ _ (by have : l.length + 1 ≤ B.length := hl; omega) q.1, ih (Nat.le_of_succ_le hl) q.2⟩
      exact go (Nat.le_refl _) q.2⟩
  | (u, z) :: A, q => ⟨by
      have hl : (A ++ (v, x) :: B).length = (A ++ (v, y) :: B).length := by rw [List.length_append, List.length_append]; rfl
      have hn : (A ++ (v, x) :: B).length ≠ B.length := by rw [List.length_append, List.length_cons]; omega
      have h1 : RepV K c' F' H' ow' (.t (A ++ (v, x) :: B).length) u z := n _ _ _ hn q.1
      rw [hl] at h1
      exact h1, RepTmp.change n r q.2⟩
/-- a lambda is made -/
theorem SttF.lam {A B : List (V × DV)} {P f a : Addr} {q : Str} {ps ps' : Array Value} {o : HO} (S : SttF K c F ow δ (A ++ (.ref P, .own (.tab P q)) :: B) σ H) (hP : H P = some (.tbl ps)) (LH : LamY.LamH H H1 P f a q ps ps' o) :
    ∃ F1, SttF K c F1 ow δ (A ++ (.ref P, .own (.tab P q)) :: B) σ H1 ∧ Same F F1 := by
  obtain ⟨P', e0, eP, bP, wP, _, ps0, hP0, ht0, ha0⟩ := S.tm.mid
  cases e0
  rw [hP] at hP0
  cases hP0
  let F1 : Hp := fun b => if b = a then some (LamX.CodeO a q) else F b
  have f1 : F1 a = some (LamX.CodeO a q) := if_pos rfl
  have f2 : ∀ b, b ≠ a → F1 b = F b := fun b h => if_neg h
  have codeF : H a = none ∨ F a = some (LamX.CodeO a q) := LH.c0.imp id fun ⟨pos, h⟩ => by
    obtain ⟨z, e1, e2⟩ := ha0 pos _ h
    cases e1
    exact e2
  have s1 : Same F F1 := fun b u e => by
    by_cases h : b = a
    · rw [h] at e ⊢
      rcases codeF with z | z
      · rw [S.fh _ _ e] at z; cases z
      · rw [e] at z; cases z; exact f1
    · rw [f2 b h]; exact e
  have stay : ∀ p, H p ≠ none → F p = none → p ≠ P → p ≠ a ∧ H1 p = H p := fun p h1 h2 h3 => by
    have na : p ≠ a := fun z => by
      rw [z] at h1 h2
      rcases codeF with y | y
      · exact h1 y
      · rw [y] at h2; cases h2
    exact ⟨na, LH.same p h3 na fun z => h1 (by rw [z]; exact LH.f0)⟩
  have rep : ∀ {h : Hold} {v : V} {x : DV}, h ≠ .t B.length → RepV K c F H ow h v x → RepV K c F1 H1 ow h v x := fun {h v x} ne q => by
    cases x with
    | d y => exact Rep.mono s1 q
    | own o =>
      obtain ⟨p, rfl, e, b, w, r⟩ := q
      have np : p ≠ P := fun z => by subst z; rw [eP] at e; cases e; exact ne rfl
      obtain ⟨na, eh⟩ := stay p r.has b np
      exact ⟨p, rfl, e, by rw [f2 p na]; exact b, w, r.mono s1 eh⟩
  have wP' : c.H0 P = none := wP.t
  refine ⟨F1, ⟨fun b u e => ?_, S.f0.trans s1, fun b h => ?_, fun b u e n => ?_, fun b e => ?_, S.len, fun j z qz => let ⟨v, e1, e2⟩ := S.sl j z qz; ⟨v, e1, rep (fun z => nomatch z) e2⟩, ?_, S.ps⟩, s1⟩
  · by_cases h : b = a
    · rw [h, f1] at e
      cases e
      rw [h]
      exact LH.c1
    · rw [f2 b h] at e
      have hb := S.fh _ _ e
      rw [LH.same b (fun z => by rw [z, bP] at e; cases e) h fun z => by rw [z, LH.f0] at hb; cases hb]
      exact hb
  · by_cases hb : b = a
    · rw [hb]
      rcases codeF with z | z
      · exact .inr (S.up a z)
      · exact S.fn a (by rw [z]; exact fun y => nomatch y)
    · rw [f2 b hb] at h
      exact S.fn b h
  · have hb := S.fr b u e n
    by_cases h : b = a
    · rw [h]
      rcases codeF with z | z
      · rw [h, S.up a z] at e; cases e
      · rw [h] at hb
        rw [S.fh _ _ z] at hb
        rw [← hb]
        exact LH.c1
    · rw [LH.same b (fun z => by rw [z, wP'] at e; cases e) h fun z => by rw [z, LH.f0] at hb; cases hb]
      exact hb
  · by_cases h1 : b = P
    · rw [h1]; exact wP'
    · by_cases h2 : b = a
      · rw [h2, LH.c1] at e; cases e
      · by_cases h3 : b = f
        · rw [h3, LH.f1] at e; cases e
        · rw [LH.same b h1 h2 h3] at e
          exact S.up b e
  · refine RepTmp.change (x := .own (.tab P q)) (y := .own (.tab P q)) (fun k v x hk q => rep (fun z => hk (by cases z; rfl)) q) ⟨P, rfl, eP, by rw [f2 P LH.cP.symm]; exact bP, wP, rfl, ps', LH.tP, LH.ok, fun pos cv hcv => ?_⟩ S.tm
    rcases LH.am pos cv hcv with z | z
    · obtain ⟨z1, e1, e2⟩ := ha0 pos cv z
      exact ⟨z1, e1, s1 _ _ e2⟩
    · exact ⟨a, z, f1⟩
end
/-! ### the lambda as a value; sorted by it -/
section
variable {X : Cx} {c : Fc} {W : WX}
def tLamE (X : Cx) (P : Addr) (q : Str) (params : Arguments) (body : Expr) (scope : Scope) : TE := fun σ H Q => ∃ ps : Array Value, H P = some (.tbl ps) ∧ TriplesOk ps.toList ∧ (∀ (pos : Pos) (cv : Value), codeAmong pos ps.toList = some cv → ∃ c, cv = .ref c ∧ H c = some (LamX.CodeO c q)) ∧
  ∀ (f c' : Addr) (ps' : Array Value) (H1 : Hp), LamY.LamH H H1 P f c' q ps ps' (LamY.FnL f q params body scope (cloFrom X.env.cells scope.names []) c') → Q (.ref f) H1
theorem pe_lambda {c P : Addr} {q a : Str} {params : Arguments} {body : Expr} {scope : Scope} {pos : Pos} (TB : LamX.TabB X.base X.mg c P) (hcode : X.env.code = .ref c) (hq : X.env.qual ++ "<lambda>" = q) (L : LamY.LamS1 X.env.scope scope a) (hdef : defaultsOf params X.env = ([], [])) :
    PE X (.Lambda params body scope pos) (tLamE X P q params body scope) := ⟨fun pins s σ H Q I ⟨ps, h1, h2, h3, h⟩ =>
  LamY.lam_make3 I TB hcode hq h1 h2 h3 hdef (L.has I.ok) fun f c' ps' H1 s' I1 LH => ⟨.ref f, H1, I1, rfl, h f c' ps' H1 LH⟩⟩
/-- sorted(l, key=f), f the lambda, whose body's reading is tb -/
def rSortL (X : Cx) (q : Str) (params : Arguments) (body : Expr) (scope : Scope) (i : Nat) (tb : TE) (σ : L2.St) : List V → List V → Hp → VK → Prop := fun xs zs H Q => ∃ (l f c' : Addr) (bs : List (V × D)) (k : V × D → Int × Int), xs = [.ref l] ∧ zs = [.ref f] ∧ SqL X.K H l (bs.map Prod.fst) ∧
  H f = some (LamY.FnL f q params body scope (cloFrom X.env.cells scope.names []) c') ∧ H c' = some (LamX.CodeO c' q) ∧
  (∀ b ∈ bs, ∀ H', Same H H' → tb (σ.set i (some b.1)) H' (fun r H3 => Same H' H3 ∧ ∃ p, r = .ref p ∧ H3 p = some (.tup [.int (k b).1, .int (k b).2]))) ∧
  ∀ H3 a, Same H H3 → H3 a = none → Q (.ref a) (upd H3 a (.lst ((bs.mergeSort (le2 k)).map Prod.fst)))
def tSortL (X : Cx) (P : Addr) (q : Str) (params : Arguments) (body : Expr) (scope : Scope) (i : Nat) (tb : TE) (te : TE) : TE := fun σ H Q => tCons te tNil σ H fun vs H1 => tCons (tLamE X P q params body scope) tNil σ H1 fun zs H2 => rSortL X q params body scope i tb σ vs zs H2 Q
theorem pe_sortL {c P : Addr} {q a : Str} {i k : Nat} {params : Arguments} {body : Expr} {scope : Scope} {lpos p pk pos : Pos} {e : Expr} {te tb : TE} (TB : LamX.TabB X.base X.mg c P) (hcode : X.env.code = .ref c) (hq : X.env.qual ++ "<lambda>" = q) (L : LamY.LamS1 X.env.scope scope a) (hdef : defaultsOf params X.env = ([], []))
    (hbind : ∀ (cl : List (Str × Addr)) (pm cv ctv u : Value), bindArgs (PySem.W.kla_fn "<lambda>" q params body scope cl pm cv ctv) ⟨[u], []⟩ = pure [(a, u)]) (room : Room (k + 3) X.A) (hN : X.N.Nodup) (hi : X.N[i]? = some a)
    (hbody : ∀ (A : Around) (s : Shared) (H : Hp) (f c' : Addr), Room k (A.deeper (LamX.lamEnv X scope s.heap.objs.size f c')) → PE (LamX.lamCx X A X.stack s H (fun _ _ _ => False) scope f c') body tb)
    (hg : Gl X "sorted") (hm : X.mg "sorted" = none) (he : PE X e te)
    (hs : backTo pos (starEach [e] X.env) = (false, eval e X.env) :: backTo pos (starEach [] X.env)) (hpl : (backTo pos (starEach [e] X.env)).any (·.1) = false)
    (hall : (backToKw pos (keywordEach [⟨some "key", .Lambda params body scope lpos, pk⟩] X.env)).all (·.1.isSome) = true) (hnone : (backToKw pos (keywordEach [⟨some "key", .Lambda params body scope lpos, pk⟩] X.env)).any (·.1.isNone) = false) (hks : (backToKw pos (keywordEach [⟨some "key", .Lambda params body scope lpos, pk⟩] X.env)).filterMap (·.1) = [Str.ofString "key"]) (hse : starEach [e] X.env = (false, eval e X.env) :: starEach [] X.env := by rfl) :
    PE X (.Call (.Name "sorted" p) [e] [⟨some "key", .Lambda params body scope lpos, pk⟩] pos) (tSortL X P q params body scope i tb te) := by
  refine ⟨fun pins s σ H Q I h => ?_⟩
  have ha := pa_cons he pa_nil hse
  have hk := pk_cons (nm := some "key") (kpos := pk) (pe_lambda (body := body) (pos := lpos) TB hcode hq L hdef) pk_nil
  refine wpAny_Call_Name_kw (ld_blt (u := .builtin "sorted") I hg hm (by decide +kernel) ?_ (by decide) (by decide))
  refine PyProof.Rows.callWith_kw (thn (ha.run pos pins s σ H _ I h) fun us s1 ⟨vs, H1, I1, r1, q1⟩ => thn (hk.run pos pins s1 σ H1 _ I1 q1) fun ws s2 ⟨zs, H2, I2, r2, q2⟩ => ?_) hs hpl hall hnone
  rw [hks]
  obtain ⟨l, f, c', bs, ky, rfl, rfl, hl, hf, hc, ht, q⟩ := q2
  obtain rfl := Vals.ref1 r1
  obtain ⟨w1, rfl, e1⟩ := vals1 r2
  obtain rfl : w1 = Value.ref f := e1
  obtain ⟨its, rv, pl, hz⟩ := I2.list hl
  have ev := vals_each rv
  have hlen := rv.length
  rw [List.length_map] at hlen hz
  refine SKI.sorted_inv (kys := bs.map ky) I2 rv pl.isList (by rw [List.length_map]; exact hlen) (by rw [← hlen]; exact hz) (by have := room.units; omega) (fun j u kk hu hk => ?_) fun s3 H3 a' out sm na ko mk => ?_
  · intro pins' s' H' I' sm
    obtain ⟨b, hb, rb⟩ := each_at ev hu
    rw [List.getElem?_map, hb] at hk
    cases hk
    have h0 := ht b (List.mem_of_getElem? hb) H' sm
    have rr : Room (k + 1 + 1 + 1) X.A := room
    refine wpAny_mono (LamY.lam_run (k := k) I' L hq (sm _ _ hf) (sm _ _ hc) hbind rr.in1.in1 hN hi rb (fun A s H hr => hbody A s H f c' hr) h0) (fun w t2 z => ?_) fun _ _ z => z
    obtain ⟨y, G2, J3, ry, sm2, p, ey, hp⟩ := z
    subst ey
    obtain rfl : w = Value.ref p := ry
    exact ⟨G2, J3, sm2, p, rfl, hp⟩
  · have e2 : (bs.map ky).map SKI.encP = bs.map (fun b => SKI.encP (ky b)) := by rw [List.map_map]; rfl
    rw [e2] at ko
    have eo := PySem.W.keyedOut_each (fun b => SKI.encP (ky b)) ko ev
    rw [PySem.W.dataLe_ii (β := V × D) (fun b => (ky b).1) (fun b => (ky b).2)] at eo
    exact ⟨.ref a', _, mk _ (each_vals eo) (by rw [List.length_map, List.length_mergeSort, List.length_map]), rfl, q H3 a' sm na⟩
end
/-! ### over data -/
section
variable {X : Cx} {c : Fc} {W : WX}
/-- data alone: what the body may change is not seen -/
def clean (δ : DSt) : DSt := δ.map fun x => match x with
  | some (.d x) => some (.d x)
  | _ => none
theorem clean_at {δ : DSt} {i : Nat} {x : DV} (h : (clean δ)[i]? = some (some x)) : ∃ d, x = .d d ∧ δ[i]? = some (some (.d d)) := by
  unfold clean at h
  rw [List.getElem?_map] at h
  cases e : δ[i]? with
  | none => rw [e] at h; cases h
  | some o =>
    rw [e] at h
    cases o with
    | none => cases h
    | some y =>
      cases y with
      | d z => cases h; exact ⟨z, rfl, rfl⟩
      | own z => cases h
/-- the lambda's frame: all that stands is kept -/
theorem SttF.body {K : PySem.W.Frag} {F H : Hp} {ow : Addr → Option Hold} {δ : DSt} {tmp : List (V × DV)} {σ : L2.St} {i : Nat} {v : V} {d : D} (S : SttF K c F ow δ tmp σ H) (r : Rep K F v d) : SttF K ⟨[], [], F, H⟩ F ow ((clean δ).set i (some (.d d))) [] (σ.set i (some v)) H := by
  refine ⟨S.fh, Same.refl F, fun a h => .inl h, fun a o e _ => e, fun a h => h, by rw [List.length_set, List.length_set]; unfold clean; rw [List.length_map]; exact S.len, fun j x q => ?_, True.intro, fun k j p q => nomatch q⟩
  by_cases e : i = j
  · subst e
    have hl := set_lt q
    rw [List.length_set] at hl
    rw [List.getElem?_set_self hl] at q
    cases q
    refine ⟨v, List.getElem?_set_self ?_, r⟩
    unfold clean at hl
    rw [List.length_map] at hl
    rw [S.len]
    exact hl
  · rw [List.getElem?_set_ne e] at q ⊢
    obtain ⟨d', rfl, q'⟩ := clean_at q
    exact S.sl j _ q'
def sortL (P : Addr) (q : Str) (i : Nat) (tb : TD) (to : TD) : TDc := fun δ cs Q E => to δ (fun x δ1 => ∃ (xs : List D) (ky : D → Int × Int), x.toD = .lst xs ∧ (P, .tab P q) ∈ cs ∧ (∀ d ∈ xs, tb ((clean δ1).set i (some (.d d))) (fun r _ => r = .d (.tup [.int (ky d).1, .int (ky d).2])) (fun _ _ => False)) ∧ Q (.own (.lst (xs.mergeSort (le2 ky)))) δ1 cs) E
theorem pec_sortL {ca P : Addr} {q a : Str} {i k : Nat} {params : Arguments} {body : Expr} {scope : Scope} {lpos p pk pos : Pos} {e : Expr} {to tb : TD} (TB : LamX.TabB X.base X.mg ca P) (hcode : X.env.code = .ref ca) (hq : X.env.qual ++ "<lambda>" = q) (L : LamY.LamS1 X.env.scope scope a) (hdef : defaultsOf params X.env = ([], []))
    (hbind : ∀ (cl : List (Str × Addr)) (pm cv ctv u : Value), bindArgs (PySem.W.kla_fn "<lambda>" q params body scope cl pm cv ctv) ⟨[u], []⟩ = pure [(a, u)]) (room : Room (k + 3) X.A) (hN : X.N.Nodup) (hi : X.N[i]? = some a)
    (hbody : ∀ (c0 : Fc) (A : Around) (s : Shared) (H : Hp) (f c' : Addr), c0.sl = [] → Room k (A.deeper (LamX.lamEnv X scope s.heap.objs.size f c')) → PE (LamX.lamCx X A X.stack s H (fun _ _ _ => False) scope f c') body (LE X.K c0 W0 tb))
    (hg : Gl X "sorted") (hm : X.mg "sorted" = none) (he : PE X e (LE X.K c W to))
    (hs : backTo pos (starEach [e] X.env) = (false, eval e X.env) :: backTo pos (starEach [] X.env)) (hpl : (backTo pos (starEach [e] X.env)).any (·.1) = false)
    (hall : (backToKw pos (keywordEach [⟨some "key", .Lambda params body scope lpos, pk⟩] X.env)).all (·.1.isSome) = true) (hnone : (backToKw pos (keywordEach [⟨some "key", .Lambda params body scope lpos, pk⟩] X.env)).any (·.1.isNone) = false) (hks : (backToKw pos (keywordEach [⟨some "key", .Lambda params body scope lpos, pk⟩] X.env)).filterMap (·.1) = [Str.ofString "key"]) (hse : starEach [e] X.env = (false, eval e X.env) :: starEach [] X.env := by rfl) :
    PE X (.Call (.Name "sorted" p) [e] [⟨some "key", .Lambda params body scope lpos, pk⟩] pos) (LEc X.K c W (sortL P q i tb to)) :=
  ⟨fun pins s σ H Q I ⟨δ, cs, pre, tmp, Qd, Ed, S, qq, kk, w⟩ => by
    refine (pe_sortL (tb := fun σ' H' Q' => ∃ c0 : Fc, c0.sl = [] ∧ LE X.K c0 W0 tb σ' H' Q') TB hcode hq L hdef hbind room hN hi (fun A s H f c' hr => ⟨fun pins s σ H Q I ⟨c0, h0, h⟩ => (hbody c0 A _ _ f c' h0 hr).run pins s σ H Q I h⟩) hg hm he hs hpl hall hnone hks hse).run pins s σ H Q I ?_
    refine (show LE X.K c W to σ H _ from ⟨δ, _, _, Ed, S, qq, fun v x δ1 H1 ⟨xs, ky, ex, hP, ht, q1⟩ ⟨F1, ow1, S1⟩ => ?_, (w.app _).app _⟩)
    obtain ⟨F2, S2, _⟩ := S1.top_frz
    rw [ex] at S2
    obtain ⟨lc, rc, ec⟩ := List.append_of_mem hP
    have es : (v, DV.d (.lst xs)) :: (pre ++ (stk cs ++ tmp)) = ((v, DV.d (.lst xs)) :: (pre ++ stk lc)) ++ (V.ref P, .own (.tab P q)) :: (stk rc ++ tmp) := by rw [ec]; simp [stk]
    have S2' := S2
    rw [es] at S2'
    obtain ⟨P', e0, _, _, _, _, ps, hPs, ht0, ha0⟩ := S2'.tm.mid
    cases e0
    show tLamE X P q params body scope σ H1 (fun z H2 => rSortL X q params body scope i (fun σ' H' Q' => ∃ c0 : Fc, c0.sl = [] ∧ LE X.K c0 W0 tb σ' H' Q') σ [v] [z] H2 Q)
    refine (show tLamE X P q params body scope σ H1 _ from ⟨ps, hPs, ht0, fun pos cv h => let ⟨z, e1, e2⟩ := ha0 pos cv h; ⟨z, e1, S2.fh _ _ e2⟩, fun f c' ps' H2 LH => ?_⟩)
    obtain ⟨F3, S3, s3⟩ := S2'.lam hPs LH
    rw [← es] at S3
    have r0 : Rep X.K F3 v (.lst xs) := S3.top
    cases r0 with
    | @lst l vs _ s1 r =>
      obtain ⟨bs, e1, e2, hb⟩ := repL_zip r
      refine ⟨l, f, c', bs, fun b => ky b.2, rfl, rfl, by rw [e1]; exact .inl (.inl (S3.fh _ _ s1)), LH.f1, LH.c1, fun b hbm H' sm => ?_, fun H3 a' sm na => ?_⟩
      · have hd : b.2 ∈ xs := by rw [← e2]; exact List.mem_map.mpr ⟨b, hbm, rfl⟩
        have S4 := (S3.ext (H' := H') ⟨Same.refl _, sm, S3.fh.trans sm, fun _ z => .inl z⟩).body (i := i) (hb b hbm)
        refine ⟨⟨[], [], F3, H'⟩, rfl, _, _, _, _, ⟨F3, ow1, S4⟩, ht b.2 hd, fun v x δ' H'' er ⟨F5, ow5, S5⟩ => ?_, fun _ _ _ _ _ _ _ _ z => z.elim⟩
        subst er
        refine ⟨fun a o e => S5.fr a o e (fun z => nomatch z), ?_⟩
        have rr' : Rep X.K F5 v (.tup [.int (ky b.2).1, .int (ky b.2).2]) := S5.top
        cases rr' with
        | @tup p vs2 _ s2 r2 =>
          cases r2 with
          | cons h1 t1 =>
            cases t1 with
            | cons h2 t2 =>
              cases t2; cases h1; cases h2
              exact ⟨p, rfl, S5.fh _ _ s2⟩
      · have em : (bs.mergeSort (le2 fun b => ky b.2)).map Prod.snd = xs.mergeSort (le2 ky) := by
          rw [← e2]
          exact List.map_mergeSort fun _ _ _ _ => rfl
        have S4 : SttF X.K c F3 ow1 δ1 (pre ++ (stk cs ++ tmp)) σ H3 := S3.pop.ext ⟨Same.refl _, sm, S3.fh.trans sm, fun _ z => .inl z⟩
        refine kk _ _ _ _ _ q1 ⟨F3, _, S4.pushNew (o := .lst (xs.mergeSort (le2 ky))) na ⟨_, upd_same, ?_⟩⟩
        rw [← em]
        exact repL_maps fun b hq => hb b (List.mem_mergeSort.mp hq)⟩
end
end DL
namespace DR
open PySem PySem.Spec PyProof.Rows L2 DL
theorem sortL {P : Addr} {q : Str} {i : Nat} {tb to : TD} {δ : DSt} {cs : Cells} {Q : DV → DSt → Cells → Prop} {E : XD} (h : to δ (fun x δ1 => ∃ (xs : List DL.D) (ky : DL.D → Int × Int), x.toD = .lst xs ∧ (P, .tab P q) ∈ cs ∧ (∀ d ∈ xs, tb ((clean δ1).set i (some (.d d))) (fun r _ => r = .d (.tup [.int (ky d).1, .int (ky d).2])) (fun _ _ => False)) ∧ Q (.own (.lst (xs.mergeSort (le2 ky)))) δ1 cs) E) : DL.sortL P q i tb to δ cs Q E := h
end DR

set_option Elab.async false
set_option linter.all false
set_option maxRecDepth 100000
set_option maxHeartbeats 2000000
/-! DL76: defs that make lambdas, or call such: the table goes with the call -/
namespace DL
open PySem PySem.Spec PyProof.Rows L2
def spG (K : PySem.W.Frag) (P : Addr) (q : Str) (sd : SpD) : Sp := fun vs H Q E => ∃ F as ps Qd Ed, Same F H ∧ ArgsRep K F H vs as ps ∧ F P = none ∧ P ∉ ps ∧ OwnRep K F H P (.tab P q) ∧ sd as Qd Ed ∧
  (∀ v x os F' H', Qd x os → Post K F H (ps ++ [P]) (os ++ [.tab P q]) F' H' → RetRep K F' H H' v x → Q v H') ∧ (∀ cls d x os F' H', Ed x os → Post K F H (ps ++ [P]) (os ++ [.tab P q]) F' H' → ExRep K F' cls d x → E cls d H')
section
variable {K : PySem.W.Frag} {c : Fc} {F F' H H' : Hp} {ow : Addr → Option Hold} {δ : DSt} {σ : L2.St} {v : V} {x : DV} {P : Addr} {q : Str}
theorem OwnsRep.lastly : ∀ {ps : List Addr} {os : List OC} {p : Addr} {o : OC}, ps.length = os.length → OwnsRep K F H (ps ++ [p]) (os ++ [o]) → OwnsRep K F H ps os ∧ F p = none ∧ OwnRep K F H p o
  | [], [], _, _, _, .cons n h _ => ⟨.nil, n, h⟩
  | _ :: _, _ :: _, _, _, e, .cons n h t => by
    obtain ⟨a, b, c⟩ := t.lastly (Nat.succ.inj e)
    exact ⟨.cons n h a, b, c⟩
  | [], _ :: _, _, _, e, _ => nomatch e
  | _ :: _, [], _, _, e, _ => nomatch e
theorem SttF.calledG {is : List Nat} {ps : List Addr} {os : List OC} {A B : List (V × DV)} (S : SttF K c F ow δ (A ++ (.ref P, .own (.tab P q)) :: B) σ H) (hp : ps.length = is.length) (hs : ∀ (k i : Nat) (p : Addr), is[k]? = some i → ps[k]? = some p → σ[i]? = some (some (.ref p)) ∧ ∃ o, δ[i]? = some (some (.own o))) (nd : is.Nodup) (Po : Post K F H (ps ++ [P]) (os ++ [.tab P q]) F' H') :
    SttF K c F' ow (putBack δ is os) (A ++ (.ref P, .own (.tab P q)) :: B) σ H' := by
  obtain ⟨P', e0, eP, bP, wP, rP⟩ := S.tm.mid
  cases e0
  have hlp : ps.length = os.length := by
    have := Po.os.len
    rw [List.length_append, List.length_append] at this
    exact Nat.add_right_cancel this
  obtain ⟨oo, nP, rP'⟩ := Po.os.lastly hlp
  have hl : is.length = os.length := by rw [← hp]; exact hlp
  have held : ∀ (k : Nat) (p : Addr), ps[k]? = some p → ∃ i, is[k]? = some i ∧ ow p = some (.s i) ∧ NewAt c (.s i) p := fun k p e => by
    have hk : k < is.length := by rw [← hp]; exact set_lt e
    obtain ⟨e1, o, e2⟩ := hs k is[k] p (List.getElem?_eq_getElem hk) e
    obtain ⟨v, e3, p', rfl, a, _, w, _⟩ := S.sl _ _ e2
    rw [e1] at e3
    cases e3
    exact ⟨_, List.getElem?_eq_getElem hk, a, w⟩
  have keep : ∀ {h : Hold} {v : V} {x : DV}, RepV K c F H ow h v x → (∀ (k i : Nat), is[k]? = some i → h ≠ .s i) → h ≠ .t B.length → RepV K c F' H' ow h v x := fun {h v x} q ne nt => by
    cases x with
    | d y => exact Rep.mono Po.f q
    | own o =>
      obtain ⟨p, rfl, a, b, w, r⟩ := q
      have np : p ∉ ps ++ [P] := fun z => by
        rcases List.mem_append.mp z with z | z
        · obtain ⟨k, hk⟩ := List.mem_iff_getElem?.mp z
          obtain ⟨i, e1, e2, _⟩ := held k p hk
          rw [a] at e2
          cases e2
          exact ne k i e1 rfl
        · rw [List.mem_singleton.mp z, eP] at a
          cases a
          exact nt rfl
      refine ⟨p, rfl, a, ?_, w, r.mono Po.f ?_⟩
      · cases z : F' p with
        | none => rfl
        | some u =>
          rcases Po.nw p (by rw [z]; exact fun q => nomatch q) with y | y
          · exact absurd b y
          · exact absurd y r.has
      · cases z : H p with
        | none => exact absurd z r.has
        | some u => exact Po.fr _ _ z np
  refine ⟨Po.fh, S.f0.trans Po.f, fun a q => (Po.nw a q).elim (S.fn a) fun z => .inr (S.up a z), fun a o q n => Po.fr a o (S.fr a o q n) fun z => ?_, fun a q => S.up a (Po.up a q), by rw [putBack_len]; exact S.len, fun j x q => ?_, ?_, S.ps⟩
  · rcases List.mem_append.mp z with z | z
    · obtain ⟨k, hk⟩ := List.mem_iff_getElem?.mp z
      obtain ⟨i, _, _, w⟩ := held k a hk
      rcases w with w | ⟨w, _⟩
      · rw [w] at q; cases q
      · exact n w
    · rw [List.mem_singleton.mp z, wP.t] at q
      cases q
  · rcases putBack_at nd hl q with ⟨k, o, e1, e2, rfl⟩ | ⟨nj, e⟩
    · have hk : k < ps.length := by rw [hp]; exact set_lt e1
      have ek := List.getElem?_eq_getElem hk
      obtain ⟨e3, _⟩ := hs k j _ e1 ek
      obtain ⟨i, e4, e5, w⟩ := held k _ ek
      rw [e1] at e4
      cases e4
      obtain ⟨n, r⟩ := oo.get ek e2
      exact ⟨_, e3, _, rfl, e5, n, w, r⟩
    · obtain ⟨v, e1, r⟩ := S.sl j x e
      exact ⟨v, e1, keep r (fun k i e2 z => nj (by cases z; exact List.mem_of_getElem? e2)) (fun z => nomatch z)⟩
  · exact RepTmp.change (x := .own (.tab P q)) (y := .own (.tab P q)) (fun k v x hk r => keep r (fun _ _ _ z => nomatch z) fun z => hk (by cases z; rfl)) ⟨P, rfl, eP, nP, wP, rP'⟩ S.tm
theorem ret_pushG {is : List Nat} {ps : List Addr} {os : List OC} {A B : List (V × DV)} (S : SttF K c F ow δ (A ++ (.ref P, .own (.tab P q)) :: B) σ H) (hp : ps.length = is.length)
    (hs : ∀ (k i : Nat) (p : Addr), is[k]? = some i → ps[k]? = some p → σ[i]? = some (some (.ref p)) ∧ ∃ o, δ[i]? = some (some (.own o))) (nd : is.Nodup) (Po : Post K F H (ps ++ [P]) (os ++ [.tab P q]) F' H') (r : RetRep K F' H H' v x) : Stt K c (putBack δ is os) ((v, x) :: (A ++ (.ref P, .own (.tab P q)) :: B)) σ H' := by
  cases x with
  | d y => exact ⟨F', ow, (S.calledG hp hs nd Po).push r⟩
  | own o =>
    obtain ⟨p, rfl, n, nF, r⟩ := r
    have S1 := S.reown (ow' := owSet ow p (.t (A ++ (.ref P, .own (.tab P q)) :: B).length)) (fun k a _ z => owSet_ne fun e => z (by rw [e]; exact n)) (fun k a _ _ z => owSet_ne fun e => z (by rw [e]; exact n))
    have S2 := S1.calledG hp hs nd Po
    exact ⟨F', _, { S2 with tm := ⟨⟨p, rfl, owSet_at, nF, .inl (S.up _ n), r⟩, S2.tm⟩ }⟩
end
/-! ### the call -/
def callG (P : Addr) (q : Str) (sd : SpD) (ta : TDA) : TDc := fun δ cs Q E => (P, .tab P q) ∈ cs ∧ ta δ (fun as δ1 => ∃ xs, argsOf δ1 as xs ∧ (slotsOf as).Nodup ∧ sd xs (fun r os => Q r (putBack δ1 (slotsOf as) os) cs) (fun x os => E x (putBack δ1 (slotsOf as) os))) E
section
variable {X : Cx} {c : Fc} {W : WX}
theorem pec_callG {k : Nat} {f P : Addr} {q : Str} {fd : FuncData} {ps : List Str} {sd : SpD} {x : Str} {p pos : Pos} {e : Expr} {es : List Expr} {ta : TDA} (G : FnOk X.prog X.w X.K X.mg X.base (L2.CX X.prog X.w) k f fd ps (spG X.K P q sd)) (hr : Room k X.A) (hg : Gl X x) (hm : X.mg x = some (.ref f)) (hk : PySem.W.keepIn X.K (.ref f) = true) (hb : Binds X.K fd ps []) (tk : Takes X W) (ha : PA X (e :: es) (LA X.K c W ta))
    (hdb : (x == ("__debug__" : Str)) = false := by decide) (he : starEach (e :: es) X.env = (false, eval e X.env) :: starEach es X.env := by rfl) (hpl : (backTo pos (starEach es X.env)).any (·.1) = false := by rfl) :
    PE X (.Call (.Name x p) (e :: es) [] pos) (LEc X.K c W (callG P q sd ta)) :=
  PE_imp (pe_callSD (E := WE W) G hr hg hm hk hb .nil (fun σ => passAt tk σ) ha hdb he hpl) fun σ H Q ⟨δ, cs, pre, tmp, Qd, Ed, S, ⟨hP, t⟩, kk, w⟩ =>
    ⟨δ, _, _, Ed, S, t, fun vs as δ1 F ow H1 ⟨xs, ea, nd, sp⟩ S1 ra => by
      show spG X.K P q sd (vs ++ []) H1 Q (WE W σ)
      rw [List.append_nil]
      obtain ⟨lc, rc, ec⟩ := List.append_of_mem hP
      have es : pre ++ (stk cs ++ tmp) = (pre ++ stk lc) ++ (V.ref P, .own (.tab P q)) :: (stk rc ++ tmp) := by rw [ec]; simp [stk]
      obtain ⟨ps, ar, hl, hs⟩ := args_rep S1 ra ea nd
      have S2 := S1
      rw [es] at S2
      obtain ⟨P', e0, eP, bP, wP, rP⟩ := S2.tm.mid
      cases e0
      have nP : P ∉ ps := fun z => by
        obtain ⟨k, hk⟩ := List.mem_iff_getElem?.mp z
        have hk2 : k < (slotsOf as).length := by rw [← hl]; exact set_lt hk
        obtain ⟨e3, o', e4⟩ := hs k _ P (List.getElem?_eq_getElem hk2) hk
        obtain ⟨v, e5, p2, rfl, e6, _⟩ := S1.sl _ _ e4
        rw [e3] at e5
        cases e5
        rw [eP] at e6
        cases e6
      refine ⟨F, xs, ps, _, _, S1.fh, ar, bP, nP, rP, sp, fun v r os F' H' q P' rr => ?_, fun cls d x os F' H' q P' er => ?_⟩
      · refine kk v r _ cs H' q ?_
        rw [es]
        exact ret_pushG S2 hl hs nd P' rr
      · have S3 := S2.calledG hl hs nd P'
        rw [← es] at S3
        exact (w.app (stk cs)).app pre x _ σ H' F' ow cls d q S3 er, (w.app _).app _⟩
/-! ### statements -/
def retC (t : TDc) : TDSc := fun D δ cs => t δ cs D.rt D.ex
theorem psc_ret {e : Expr} {t : TDc} {pos : Pos} (he : PE X e (LEc X.K c W t)) : PS X (.Return (some e) pos) (LSc X.K c W (retC t)) :=
  PS_imp (ps_ret he) fun D σ H ⟨δ, cs, pre, tmp, Dd, S, q, k, kr, kb, kc, w⟩ => ⟨δ, cs, pre, tmp, _, _, S, q, fun v x δ' cs' H' q' S' => kr v x δ' cs' σ H' q' S', w⟩
def ifC (c : TDTc) (t u : TDSc) : TDSc := fun D δ cs => c δ cs (fun b δ1 cs1 => if b = true then t D δ1 cs1 else u D δ1 cs1) D.ex
theorem psc_if {e : Expr} {a b : List Stmt} {tc : TDTc} {t u : TDSc} {pos : Pos} (hc : PT X e (LTc X.K c W tc)) (ha : PSs X a (LSc X.K c W t)) (hb : PSs X b (LSc X.K c W u)) : PS X (.If e a b pos) (LSc X.K c W (ifC tc t u)) :=
  PS_imp (ps_if hc ha hb) fun D σ H ⟨δ, cs, pre, tmp, Dd, S, q, k, kr, kb, kc, w⟩ => ⟨δ, cs, pre, tmp, _, _, S, q, fun b δ' cs' H' q' S' => by
    cases b
    · exact ⟨δ', cs', pre, tmp, Dd, S', q', k, kr, kb, kc, w⟩
    · exact ⟨δ', cs', pre, tmp, Dd, S', q', k, kr, kb, kc, w⟩, w⟩
def notC (t : TDTc) : TDTc := fun δ cs Q E => t δ cs (fun b δ1 cs1 => Q (!b) δ1 cs1) E
theorem ptc_not {a : Expr} {t : TDTc} {pos : Pos} (ha : PT X a (LTc X.K c W t)) : PT X (.UnaryOp .Not a pos) (LTc X.K c W (notC t)) :=
  PT_imp (pt_not ha) fun σ H Q ⟨δ, cs, pre, tmp, Qd, Ed, S, q, k, w⟩ => ⟨δ, cs, pre, tmp, _, _, S, q, fun b δ' cs' H' q' S' => k _ _ _ _ q' S', w⟩
def tvC (t : TDc) : TDTc := fun δ cs Q E => t δ cs (fun x δ1 cs1 => ∃ b, x = .d (.bl b) ∧ Q b δ1 cs1) E
theorem ptc_val {e : Expr} {t : TDc} (he : PE X e (LEc X.K c W t)) (h : ∀ {t : TE}, PE X e t → PT X e (tB t)) : PT X e (LTc X.K c W (tvC t)) :=
  PT_imp (h he) fun σ H Q ⟨δ, cs, pre, tmp, Qd, Ed, S, q, k, w⟩ => ⟨δ, cs, pre, tmp, _, Ed, S, q, fun v x δ' cs' H' ⟨b, e, q'⟩ ⟨F, ow, S'⟩ => by
    subst e
    refine ⟨b, ?_, k b δ' cs' H' q' ⟨F, ow, S'.pop⟩⟩
    cases (show Rep X.K F v (.bl b) from S'.tm.1)
    rfl, w⟩
/-- a loop that may answer, with data -/
def forDR (g : TDG) (tb : TDSc) (D : EndsC) : List DL.D → DSt → Cells → Prop
  | [], δ, cs => D.nx δ cs
  | x :: xs, δ, cs => g x δ fun δ1 => tb { nx := forDR g tb D xs, ct := forDR g tb D xs, bk := D.nx, ex := D.ex, rt := fun x δ cs => ∃ y, x = .d y ∧ D.rt (.d y) δ cs } δ1 cs
def forCR (ti : TDI) (g : TDG) (tb : TDSc) : TDSc := fun D δ cs => ti δ (fun xs δ1 => forDR g tb D xs δ1 cs) D.ex
theorem psc_forR {tg iter : Expr} {body : List Stmt} {ti : TDI} {g : TDG} {tb : TDSc} {pos : Pos} (hp : PassesOwn (model X.prog X.w) X.A X.env X.xe) (hc : X.calm = true) (hi : PI X tg iter (LI X.K c W ti)) {vs : List Nat} (hg : PG X tg (LG X.K c vs g)) (hb : PSs X body (LSc X.K c W tb))
    (hs : ∀ x, foldedSetIterable iter X.env x = pure x := by intro _; rfl) : PS X (.For tg iter body [] pos) (LSc X.K c W (forCR ti g tb)) :=
  PS_imp (ps_for hp hc hi hg hb hs) fun D σ H ⟨δ, cs, pre, tmp, Dd, S, q, k, kr, kb, kc, w⟩ => by
    refine ⟨δ, _, _, _, S, q, fun J v src items δ1 H1 q1 sv S1 => ?_, (w.app _).app _⟩
    refine ⟨fun i m σ H => m = items.length - i ∧ i ≤ items.length ∧ ∃ δ cs, Stt X.K c δ ((v, .d src) :: (pre ++ (stk cs ++ tmp))) σ H ∧ forDR g tb Dd (items.drop i) δ cs, ⟨items.length, by simp, Nat.zero_le _, δ1, cs, S1, q1⟩, ?_⟩
    rintro i m σ2 H2 ⟨rfl, hi, δ2, cs2, ⟨F2, ow2, S2⟩, q2⟩
    by_cases hlt : i < items.length
    · refine .inr ⟨sv.go i F2 H2 S2.fh S2.top hlt, fun σ H => i + 1 ≤ items.length ∧ ∃ δ cs, Stt X.K c δ ((v, .d src) :: (pre ++ (stk cs ++ tmp))) σ H ∧ forDR g tb Dd (items.drop (i + 1)) δ cs, fun σ' H' h => ⟨items.length - (i + 1), by omega, rfl, h⟩, fun x H' y => ?_⟩
      obtain ⟨F3, e3, r3⟩ := sv.yld i F2 H2 x H' S2.fh S2.top y _ (List.getElem?_eq_getElem hlt)
      rw [List.drop_eq_getElem_cons hlt] at q2
      exact ⟨δ2, (v, .d src) :: (pre ++ (stk cs2 ++ tmp)), _, _, ⟨F3, ow2, (S2.ext e3).push r3⟩, q2, fun δ4 σ4 H4 q4 S4 _ => ⟨δ4, cs2, (v, .d src) :: pre, tmp, _, S4, q4, fun δ5 cs5 σ5 H5 q5 S5 => ⟨hlt, δ5, cs5, S5, q5⟩, fun u z δ5 cs5 σ5 H5 ⟨y, ez, q5⟩ ⟨F5, ow5, S5⟩ => by
        subst ez
        have ry : Rep X.K F5 u y := S5.tm.1
        exact kr u (.d y) δ5 cs5 σ5 H5 q5 ⟨F5, ow5, S5.pop.pop.push ry⟩, fun δ5 cs5 σ5 H5 q5 ⟨F5, ow5, S5⟩ => k δ5 cs5 σ5 H5 q5 ⟨F5, ow5, S5.pop⟩, fun δ5 cs5 σ5 H5 q5 S5 => ⟨hlt, δ5, cs5, S5, q5⟩, w⟩⟩
    · have e : i = items.length := by omega
      subst e
      rw [List.drop_length] at q2
      exact .inl ⟨sv.stop _ F2 H2 S2.fh S2.top (Nat.le_refl _), k _ _ _ _ q2 ⟨F2, ow2, S2.pop⟩⟩
end
/-! ### the def -/
def endsG (sl : List Nat) (P : Addr) (q : Str) (Qd : DV → List OC → Prop) (Ed : Ex → List OC → Prop) : EndsC where
  nx := fun δ cs => cs = [(P, .tab P q)] ∧ (endsD sl Qd Ed).nx δ
  rt := fun x δ cs => cs = [(P, .tab P q)] ∧ (endsD sl Qd Ed).rt x δ
  ex := fun _ _ => False
section
variable {P : Program} {w : World} {K : PySem.W.Frag} {mg : Str → Option Value} {base : Heap}
theorem Fun.okXc {x qual : Str} {st : Stmt} {f : Addr} {fd : FuncData} {N ps : List Str} {k : Nat} {sp : Sp} (F : Fun K x qual st f fd) (S : FnScope N ps (defScope st)) (len : ∀ vs H Q E, sp vs H Q E → vs.length = ps.length)
    (hbody : ∀ (cdv : Value) (A : Around) (outer : List Env) (s : Shared) (H : Hp) (vs : List V) (Q : VK) (E : XK), fd.code = cdv → Room k (A.deeper (envOfC qual (defScope st) s.heap.objs.size f cdv)) → sp vs H Q E →
      ∃ t, PSs (cxOf (L2.CX P w) P w K mg base N qual (defScope st) f cdv A outer s H E) (defBody st) t ∧ t { nx := fun _ H' => Q .non H', rt := Q } (L2.start N vs) H) : FnOk P w K mg base (L2.CX P w) (k + 1) f fd ps sp := by
  obtain ⟨oc, od, kV, doc, pm, an, cdv, ct, osl, rfl, lk, hcd⟩ := F.ex
  exact fn_of lk hcd S len fun A outer s H vs Q E hr hsp => hbody cdv A outer s H vs Q E rfl hr hsp
theorem okG {x qual q : Str} {st : Stmt} {f T : Addr} {fd : FuncData} {N ps : List Str} {k : Nat} {sd : SpD} (G : Fun K x qual st f fd) (S : FnScope N ps (defScope st)) (sl : List Nat) (len : ∀ as Q E, sd as Q E → as.length = ps.length ∧ ownIx as 0 = sl)
    (hbody : ∃ t : TDSc, (∀ (cdv : Value) (A : Around) (outer : List Env) (s : Shared) (H : Hp) (E : XK) (ad : List Addr) (F0 H0 : Hp), fd.code = cdv → Room k (A.deeper (envOfC qual (defScope st) s.heap.objs.size f cdv)) →
        PSs (cxOf (L2.CX P w) P w K mg base N qual (defScope st) f cdv A outer s H E) (defBody st) (LSc K ⟨sl, ad, F0, H0⟩ (fun cls d _ H => E cls d H) t)) ∧
      ∀ as Qd Ed, sd as Qd Ed → t (endsG sl T q Qd Ed) (startD N.length as) [(T, .tab T q)]) :
    FnOk P w K mg base (L2.CX P w) (k + 1) f fd ps (spG K T q sd) := by
  obtain ⟨t, ht, hq⟩ := hbody
  refine Fun.okXc G S (fun vs H Q E ⟨F, as, qs, Qd, Ed, _, A, _, _, _, h, _⟩ => by rw [A.len]; exact (len _ _ _ h).1) fun cdv A outer s H vs Q E hcd hr ⟨F, as, qs, Qd, Ed, sm, ar, bT, nT, rT, h, kq, ke⟩ => ?_
  have hsl := (len _ _ _ h).2
  have S0 := entry (N := N) sm ar
  rw [hsl] at S0
  have hpl : qs.length = sl.length := by rw [← hsl]; exact ar.plen
  have hT : H T ≠ none := rT.has
  let H0 : Hp := fun a => if a = T then none else H a
  have g1 : H0 T = none := if_pos rfl
  have g2 : ∀ a, a ≠ T → H0 a = H a := fun a h => if_neg h
  have g3 : ∀ a, H a = none → H0 a = none := fun a h => by
    by_cases e : a = T
    · rw [e]; exact g1
    · rw [g2 a e]; exact h
  have S1 : SttF K ⟨sl, qs, F, H0⟩ F (owSet (owOf as vs 0) T (.t 0)) (startD N.length as) [(V.ref T, .own (.tab T q))] (L2.start N vs) H := by
    refine ⟨S0.fh, S0.f0, fun a h => .inl h, fun a o (e : H0 a = some o) n => ?_, fun a e => g3 a e, S0.len, fun i x e => ?_, ⟨⟨T, rfl, owSet_at, bT, .inl g1, rT⟩, True.intro⟩, S0.ps⟩
    · by_cases z : a = T
      · rw [z, g1] at e; cases e
      · rw [g2 a z] at e; exact S0.fr a o e n
    · obtain ⟨v, e1, r⟩ := S0.sl i x e
      refine ⟨v, e1, ?_⟩
      cases x with
      | d y => exact r
      | own o =>
        obtain ⟨p, rfl, a, b, w, r⟩ := r
        have np : p ≠ T := fun z => by
          rcases w with w | ⟨w, _⟩
          · have w : H p = none := w
            rw [z] at w
            exact hT w
          · rw [z] at w; exact nT w
        exact ⟨p, rfl, (owSet_ne np).trans a, b, w.imp (g3 p) id, r⟩
  have post : ∀ {δ' : DSt} {tmp : List (V × DV)} {σ' : L2.St} {F' H' : Hp} {ow' : Addr → Option Hold} {os : List OC}, SttF K ⟨sl, qs, F, H0⟩ F' ow' δ' (tmp ++ [(V.ref T, .own (.tab T q))]) σ' H' → takeB δ' sl os → Post K F H (qs ++ [T]) (os ++ [.tab T q]) F' H' := fun {δ' tmp σ' F' H' ow' os} S' tb => by
    obtain ⟨T', e0, eT, bT', wT', rT'⟩ := S'.tm.mid
    cases e0
    have oo := takeB_reps S' hpl S'.ps tb
    refine ⟨S'.f0, S'.fh, fun a o e n => S'.fr a o (by show H0 a = some o; rw [g2 a fun z => n (by rw [z]; exact List.mem_append_right _ (List.mem_singleton.mpr rfl))]; exact e) fun z => n (List.mem_append_left _ z), fun a e => ?_, fun a e => ?_, ?_⟩
    · have h0 := S'.up a e
      by_cases z : a = T
      · rw [z] at e; exact absurd e rT'.has
      · have h0 : H0 a = none := h0
        rw [g2 a z] at h0; exact h0
    · rcases S'.fn a e with z | z
      · exact .inl z
      · by_cases y : a = T
        · rw [y, bT'] at e; exact absurd rfl e
        · have z : H0 a = none := z
          rw [g2 a y] at z; exact .inr z
    · have go : ∀ {ps : List Addr} {os : List OC}, OwnsRep K F' H' ps os → OwnsRep K F' H' (ps ++ [T]) (os ++ [.tab T q]) := fun {ps os} o => by
        induction o with
        | nil => exact .cons bT' rT' .nil
        | cons n h t ih => exact .cons n h ih
      exact go oo
  refine ⟨_, ht cdv A outer s H E qs F H0 hcd hr, startD N.length as, [(T, .tab T q)], [], [], endsG sl T q Qd Ed, ⟨F, _, S1⟩, hq as Qd Ed h, fun δ' cs' σ' H' ⟨ec, os, tb, q⟩ ⟨F', ow', S'⟩ => ?_, fun v x δ' cs' σ' H' ⟨ec, os, tb, q⟩ ⟨F', ow', S'⟩ => ?_, fun _ _ _ _ z => z.elim, fun _ _ _ _ z => z.elim, fun _ _ _ _ _ _ _ _ z => z.elim⟩
  · subst ec
    exact kq .non (.d .non) os F' H' q (post (tmp := []) S' tb) .non
  · subst ec
    refine kq v x os F' H' q (post (tmp := [(v, x)]) S' tb) ?_
    cases x with
    | d y => exact S'.top
    | own o =>
      obtain ⟨p, rfl, e, b, n, r⟩ := S'.tm.1
      obtain ⟨T', e0, eT, _⟩ := S'.tm.2.1
      cases e0
      refine ⟨p, rfl, ?_, b, r⟩
      have n0 : H0 p = none := n.t
      by_cases z : p = T
      · rw [z] at e
        rw [show ow' T = some (.t 1) from e] at eT
        cases eT
      · rw [g2 p z] at n0; exact n0
end
end DL
namespace DR
open PySem PySem.Spec PyProof.Rows L2 DL
section
variable {δ : DSt} {cs : Cells} {Q : DV → DSt → Cells → Prop} {E : XD} {D : EndsC}
theorem callG {P : Addr} {q : Str} {sd : SpD} {ta : TDA} (h1 : (P, .tab P q) ∈ cs) (h : ta δ (fun as δ1 => ∃ xs, argsOf δ1 as xs ∧ (slotsOf as).Nodup ∧ sd xs (fun r os => Q r (putBack δ1 (slotsOf as) os) cs) (fun x os => E x (putBack δ1 (slotsOf as) os))) E) : DL.callG P q sd ta δ cs Q E := ⟨h1, h⟩
theorem retC {t : TDc} (h : t δ cs D.rt D.ex) : DL.retC t D δ cs := h
theorem ifC {c : TDTc} {t u : TDSc} (h : c δ cs (fun b δ1 cs1 => if b = true then t D δ1 cs1 else u D δ1 cs1) D.ex) : DL.ifC c t u D δ cs := h
theorem notC {t : TDTc} {Q : Bool → DSt → Cells → Prop} (h : t δ cs (fun b δ1 cs1 => Q (!b) δ1 cs1) E) : DL.notC t δ cs Q E := h
theorem tvC {t : TDc} {Q : Bool → DSt → Cells → Prop} (h : t δ cs (fun x δ1 cs1 => ∃ b, x = .d (.bl b) ∧ Q b δ1 cs1) E) : DL.tvC t δ cs Q E := h
theorem forCR {ti : TDI} {g : TDG} {tb : TDSc} (h : ti δ (fun xs δ1 => forDR g tb D xs δ1 cs) D.ex) : DL.forCR ti g tb D δ cs := h
end
theorem forR_inv {g : TDG} {tb : TDSc} {D : EndsC} {xs : List DL.D} {δ : DSt} {cs : Cells} (I : Nat → DSt → Cells → Prop) (h0 : I 0 δ cs)
    (hs : ∀ i x δ cs (N : DSt → Cells → Prop), xs[i]? = some x → I i δ cs → (∀ δ' cs', I (i + 1) δ' cs' → N δ' cs') → g x δ (fun δ1 => tb { nx := N, ct := N, bk := D.nx, ex := D.ex, rt := fun x δ cs => ∃ y, x = .d y ∧ D.rt (.d y) δ cs } δ1 cs))
    (hn : ∀ δ cs, I xs.length δ cs → D.nx δ cs) : forDR g tb D xs δ cs := by
  have go : ∀ (m i : Nat) δ cs, i + m = xs.length → I i δ cs → forDR g tb D (xs.drop i) δ cs := fun m => by
    induction m with
    | zero =>
      intro i δ cs e h
      have e : i = xs.length := e
      subst e
      rw [List.drop_length]
      exact hn δ cs h
    | succ m ih =>
      intro i δ cs e h
      have hl : i < xs.length := by omega
      rw [List.drop_eq_getElem_cons hl]
      exact hs i _ δ cs _ (List.getElem?_eq_getElem hl) h fun δ' cs' h' => ih (i + 1) δ' cs' (by omega) h'
  have := go xs.length 0 δ cs (Nat.zero_add _) h0
  rwa [List.drop_zero] at this
end DR
namespace DL
open PySem PySem.Spec PyProof.Rows L2
/-- a def with the table that goes with its calls -/
structure DefT (P : Program) (w : World) (K : PySem.W.Frag) (mg : Str → Option Value) (base : Heap) (x : Str) (k : Nat) (ps : List Str) (T : Addr) (q : Str) (sd : SpD) where
  f : Addr
  fd : FuncData
  ok : FnOk P w K mg base (L2.CX P w) k f fd ps (spG K T q sd)
  mg : mg x = some (.ref f)
  kp : PySem.W.keepIn K (.ref f) = true
  b : Binds K fd ps []
end DL

set_option Elab.async false
set_option linter.all false
set_option maxRecDepth 100000
set_option maxHeartbeats 0
set_option pp.deepTerms false
set_option pp.deepTerms.threshold 8

namespace RD9
open PySem PySem.Spec PyProof.Rows L2
theorem mulr {i j : Int} (h1 : -(2 ^ 64) < j) (h2 : j < 2 ^ 64) : CMul i j := .inr ⟨h1, h2⟩
theorem divw {i j : Int} (h1 : 0 < j) (h2 : j.natAbs.log2 < 9000) : CDivW i j := ⟨h1, h2⟩
theorem mull {i j : Int} (h1 : -(2 ^ 64) < i) (h2 : i < 2 ^ 64) : CMul i j := .inl ⟨h1, h2⟩
theorem pow18 : CPow 10 18 := ⟨by decide, by decide, by decide⟩
theorem pow12 : CPow 10 12 := ⟨by decide, by decide, by decide⟩
theorem scalI {i j : Int} : scal (.int i) (.int j) = true := rfl
theorem scalS {i j : Str} : scal (.str i) (.str j) = true := rfl
theorem iteEqI {A B : Prop} {i j : Int} (h : if decide (i = j) = true then A else B) : if (if false = true then !decide (V.int i = V.int j) else decide (V.int i = V.int j)) = true then A else B := by
  rw [show decide (V.int i = V.int j) = decide (i = j) from decide_eq_decide.mpr ⟨fun e => V.int.inj e, fun e => congrArg _ e⟩]; exact h
theorem iteNeI {A B : Prop} {i j : Int} (h : if (!decide (i = j)) = true then A else B) : if (if true = true then !decide (V.int i = V.int j) else decide (V.int i = V.int j)) = true then A else B := by
  rw [show decide (V.int i = V.int j) = decide (i = j) from decide_eq_decide.mpr ⟨fun e => V.int.inj e, fun e => congrArg _ e⟩]; exact h
theorem iteEqS {A B : Prop} {i j : Str} (h : if decide (i = j) = true then A else B) : if (if false = true then !decide (V.str i = V.str j) else decide (V.str i = V.str j)) = true then A else B := by
  rw [show decide (V.str i = V.str j) = decide (i = j) from decide_eq_decide.mpr ⟨fun e => V.str.inj e, fun e => congrArg _ e⟩]; exact h
theorem iteNeS {A B : Prop} {i j : Str} (h : if (!decide (i = j)) = true then A else B) : if (if true = true then !decide (V.str i = V.str j) else decide (V.str i = V.str j)) = true then A else B := by
  rw [show decide (V.str i = V.str j) = decide (i = j) from decide_eq_decide.mpr ⟨fun e => V.str.inj e, fun e => congrArg _ e⟩]; exact h
theorem iteNF {A B : Prop} (h : A) : if (if true = true then !false else false) = true then A else B := h
theorem iteNT {A B : Prop} (h : B) : if (if true = true then !true else true) = true then A else B := h
theorem iteIF {A B : Prop} (h : B) : if (if false = true then !false else false) = true then A else B := h
theorem iteIT {A B : Prop} (h : A) : if (if false = true then !true else true) = true then A else B := h
theorem lkn {α : Type} {f : Str} {fs : List (Str × α)} (h : (List.lookup f fs).isNone = true) : List.lookup f fs = none := Option.isNone_iff_eq_none.mp h
theorem f1k {α : Type} {l : List α} (h : Nat.blt l.length 1000 = true) : l.length < 1000 := by simpa [Nat.blt_eq] using h
theorem nd0 : ([] : List Nat).Nodup := .nil
theorem nd1 {a : Nat} : [a].Nodup := List.nodup_cons.mpr ⟨(fun h => nomatch h), .nil⟩
theorem nd2 {a b : Nat} (h : (a == b) = false) : [a, b].Nodup := List.nodup_cons.mpr ⟨(fun z => by rw [List.mem_singleton.mp z] at h; simp at h), nd1⟩
theorem sh0 {α : Type} : ([] : List α).length ≤ sizeLine := by show 0 ≤ sizeLine; decide
theorem sh1 {α : Type} {a : α} : [a].length ≤ sizeLine := by show 1 ≤ sizeLine; decide
theorem sh2 {α : Type} {a b : α} : [a, b].length ≤ sizeLine := by show 2 ≤ sizeLine; decide
theorem sh3 {α : Type} {a b c : α} : [a, b, c].length ≤ sizeLine := by show 3 ≤ sizeLine; decide
theorem sh4 {α : Type} {a b c d : α} : [a, b, c, d].length ≤ sizeLine := by show 4 ≤ sizeLine; decide
end RD9
local macro_rules
  | `(tactic| walk_at "da") => `(tactic| repeat (first | exact DR.args_n | apply DR.args_d | (apply DR.args_o; (with_unfolding_all rfl))))
local macro_rules
  | `(tactic| walk_at "dt") => `(tactic| repeat (first | exact DR.tk_n | (apply DR.tk_c; (with_unfolding_all rfl))))
local macro_rules
  | `(tactic| walk_at "dc") => `(tactic| first | (exact RD9.mulr (by decide) (by decide)) | (exact RD9.mull (by decide) (by decide)) | (exact RD9.mulr (by omega) (by omega)) | (exact RD9.mull (by omega) (by omega)) | (show (0 : Int) < _; first | decide | omega) | (exact RD9.divw (by decide) (by decide +kernel)) | (exact RD9.divw (by omega) (by decide +kernel)))
local macro_rules
  | `(tactic| walk_at "dd1") => `(tactic| with_reducible first
    | apply DR.op | (apply DR.var; (with_unfolding_all rfl)) | apply DR.const | apply DR.cons | apply DR.nil | apply DR.seq | apply DR.set | apply DR.tv | apply DR.built | apply DR.call | apply DR.consO
    | apply DR.if_ | apply DR.ifE | apply DR.ret | apply DR.retN | apply DR.next | apply DR.drop | apply DR.setO | apply DR.setLc | apply DR.par | apply DR.par3 | apply DR.consk | apply DR.nilk | apply DR.unpack
    | (apply DR.fvar; (with_unfolding_all rfl)) | (apply DR.mvar; (with_unfolding_all rfl)) | apply DR.lst | apply DR.tup | apply DR.not | apply DR.and | apply DR.or | apply DR.boolE | apply DR.notv | apply DR.andv | apply DR.orv | apply DR.chain | apply DR.neg
    | (apply DR.ixo; (with_unfolding_all rfl)) | (apply DR.setItem; (with_unfolding_all rfl)) | (apply DR.meth; (with_unfolding_all rfl)) | (apply DR.builtO; (with_unfolding_all rfl))
    | apply DR.newDK | (apply DR.getKO; (with_unfolding_all rfl)) | apply DR.putK | apply DR.inKO | apply DR.inKF | (apply DR.aug; (with_unfolding_all rfl)) | apply DR.makeO | (apply DR.methO; (with_unfolding_all rfl); exact RD9.lkn (by with_unfolding_all rfl)) | (apply DR.owniO; (with_unfolding_all rfl); (with_unfolding_all rfl)) | apply DR.sortK | apply DR.tupItems
    | apply DR.both | apply DR.sub | apply DR.newk | (apply DR.newl; (with_unfolding_all rfl)) | apply DR.callr | apply DR.starA | apply DR.tseq | apply DR.clsm | apply DR.owni | apply DR.tryc | apply DR.tryca | apply DR.tryo | apply DR.trym | apply DR.xf | apply DR.raiser | apply DR.methr | apply DR.clsmk | apply DR.join | apply DR.dzip | apply DR.tzip | apply DR.slc | apply DR.slN | apply DR.slS | apply DR.cnt | apply DR.cntT | apply DR.rotI | apply DR.lenSetR | apply DR.dcomp | apply DR.rev | apply DR.intO | apply DR.negO | apply DR.tupgV | apply DR.getK | apply DR.index
    | apply DR.inLO | apply DR.enumi | apply DR.zipi | apply DR.zipm | apply DR.lenSet | apply DR.comp2 | apply DR.compX
    | apply DR.for_ | apply DR.comp | apply DR.yes | apply DR.nameg | apply DR.tupg | apply DR.namesC | apply DR.namesN | apply DR.listi | apply DR.tupi | apply DR.stri | apply DR.range1 | apply DR.raise
    | apply DR.newT | (apply DR.getO; (with_unfolding_all rfl)) | apply DR.getF | apply DR.put | apply DR.inO | apply DR.inF | apply DR.prop | refine ⟨⟨_, by with_unfolding_all rfl⟩, ?_⟩
    | apply DR.fld | (apply DR.fldo; (with_unfolding_all rfl); (with_unfolding_all rfl)) | apply DR.fldset | apply DR.make | apply DR.methd
    | apply RD9.iteEqI | apply RD9.iteNeI | apply RD9.iteEqS | apply RD9.iteNeS | refine ⟨RD9.scalI, ?_⟩ | refine ⟨RD9.scalS, ?_⟩
    | apply RD9.iteNF | apply RD9.iteNT | apply RD9.iteIF | apply RD9.iteIT
    | apply DR.iteT | apply DR.iteF | apply DR.nit | apply DR.nif
    | (apply DR.rt; walk_at "dt") | (apply DR.nx; walk_at "dt") | (apply DR.ex; walk_at "dt")
    | refine ⟨RD9.sh3, ?_⟩ | refine ⟨RD9.sh2, ?_⟩ | refine ⟨RD9.sh1, ?_⟩ | refine ⟨RD9.sh0, ?_⟩ | refine ⟨RD9.sh4, ?_⟩ | refine ⟨RD9.pow18, ?_⟩ | refine ⟨RD9.pow12, ?_⟩
    | refine ⟨DR.nost_i, ?_⟩ | refine ⟨DR.nost_b, ?_⟩ | refine ⟨DR.nost_n, ?_⟩
    | refine ⟨_, _, (by with_unfolding_all rfl), (by walk_at "da"), (by with_unfolding_all first | exact RD9.nd0 | exact RD9.nd1 | exact RD9.nd2 rfl), ?_⟩
    | refine ⟨_, (by walk_at "da"), (by with_unfolding_all first | exact RD9.nd0 | exact RD9.nd1 | exact RD9.nd2 rfl), ?_⟩
    | refine ⟨_, _, _, by with_unfolding_all rfl, rfl, by with_unfolding_all rfl, ?_⟩
    | refine ⟨[_], rfl, ?_⟩ | refine ⟨[_, _], rfl, ?_⟩ | refine ⟨[], rfl, ?_⟩ | refine ⟨[_, _, _], rfl, ?_⟩ | refine ⟨[_, _, _, _], rfl, ?_⟩ | refine ⟨[_, _, _, _, _], rfl, ?_⟩ | refine ⟨[_, _, _, _, _, _], rfl, ?_⟩
    | refine ⟨_, _, rfl, rfl, by with_unfolding_all walk_at "dc", ?_⟩
    | refine ⟨_, _, rfl, rfl, ?_⟩
    | refine ⟨_, rfl, _, rfl, ?_⟩
    | refine ⟨_, rfl, ?_⟩
    | refine ⟨_, _, rfl, ?_⟩
    | refine ⟨_, .inl rfl, ?_⟩
    | refine ⟨RD9.f1k (by with_unfolding_all rfl), ?_⟩
    | refine ⟨RD9.lkn (by with_unfolding_all rfl), ?_⟩
   )
local macro_rules
  | `(tactic| walk_at "dd") => `(tactic| repeat walk_at "dd1")

namespace KT
open PySem PySem.Spec PyProof.Rows L2 DL
def top (i : Nat) : Stmt := PySem.Challenge.pw_coveredday_k03_whole_book_by_a_plain_lis.main.body.getD i (.Pass ⟨0, 0, 0, 0⟩)
structure TxtB (mg : Str → Option Value) : Prop where
  b_int : mg "int" = none
  b_abs : mg "abs" = none
  b_len : mg "len" = none
  b_range : mg "range" = none
  b_min : mg "min" = none
structure TxtN (mg : Str → Option Value) : Prop extends TxtB mg where
  b_isinstance : mg "isinstance" = none
  b_all : mg "all" = none
  b_str : mg "str" = none
  b_bool : mg "bool" = none
  b_list : mg "list" = none
  b_tuple : mg "tuple" = none
  b_enumerate : mg "enumerate" = none
  b_iter : mg "iter" = none
  b_max : mg "max" = none
  b_sum : mg "sum" = none
  b_sorted : mg "sorted" = none
  b_repr : mg "repr" = none
  k__CASH : ∃ t, mg "_CASH" = some (.str "cash" t)
  k__LETTERS : ∃ t, mg "_LETTERS" = some (.str "abcdefghijklmnopqrstuvwxyz" t)
  k__LONGEST_NAME : ∃ t, mg "_LONGEST_NAME" = some (.int 12 t)
  k_MOST : ∃ t, mg "MOST" = some (.int (10 ^ 12) t)
  k_MOST_COUNT : ∃ t, mg "MOST_COUNT" = some (.int (10 ^ 6) t)
def Nm (g : Str) : Prop := g ≠ "cash" ∧ 1 ≤ g.length ∧ g.length ≤ 12 ∧ ∀ c ∈ g.cps.toList, 97 ≤ c ∧ c ≤ 122
def Goods (gs : List Str) : Prop := gs.Nodup ∧ 1 ≤ gs.length ∧ gs.length ≤ 5 ∧ ∀ g ∈ gs, Nm g
def cash : Str := "cash"
def RowOf (x : D) (xs : List D) : Prop := x = .lst xs ∨ x = .tup xs
theorem in_abz {c : Nat} (h : 97 ≤ c ∧ c ≤ 122) : c ∈ (Str.ofString "abcdefghijklmnopqrstuvwxyz").cps.toList := by
  have e : ∀ k : Fin 26, 97 + k.val ∈ (Str.ofString "abcdefghijklmnopqrstuvwxyz").cps.toList := by decide +kernel
  have := e ⟨c - 97, by omega⟩
  rwa [show 97 + (c - 97) = c by omega] at this
theorem kit_self {K : PySem.W.Frag} {n : String} : PySem.W.kitOne K (.type n) (.type n) = some true := by
  unfold PySem.W.kitOne
  exact if_pos (beq_iff_eq.mpr rfl)
theorem scL_str : ∀ {gs : List Str}, scL (gs.map .str) = some (gs.map V.str)
  | [] => rfl
  | g :: gs => by
    rw [List.map_cons, List.map_cons]
    unfold scL
    rw [scL_str]
    rfl
theorem inV_str {a : Str} {gs : List Str} : inV (V.str a) (gs.map V.str) = decide (a ∈ gs) := by
  unfold inV
  rw [List.any_map, Bool.eq_iff_iff, List.any_eq_true, decide_eq_true_eq]
  constructor
  · rintro ⟨b, hb, e⟩
    have e : eqV (V.str b) (V.str a) = true := e
    have : b = a := by simpa [eqV] using e
    exact this ▸ hb
  · intro h
    exact ⟨a, h, by show eqV (V.str a) (V.str a) = true; simp [eqV]⟩
theorem dp_strs (l : List Str) : Dp_ 2 (.tup (l.map .str)) := dp_tup (dp_map fun r _ => dp_str)
theorem dp_ints (l : List Int) : Dp_ 2 (.tup (l.map .int)) := dp_tup (dp_map fun r _ => dp_int)
abbrev s_is_name : Stmt := top 13
theorem sc_is_name : FnScope ["thing", "letter"] ["thing"] (defScope s_is_name) := ⟨rfl, rfl, rfl, by decide +kernel, rfl, by decide +kernel, by decide +kernel⟩
abbrev s_is_integer : Stmt := top 11
theorem sc_is_integer : FnScope ["thing"] ["thing"] (defScope s_is_integer) := ⟨rfl, rfl, rfl, by decide +kernel, rfl, by decide +kernel, by decide +kernel⟩
end KT

set_option Elab.async false
set_option linter.all false
set_option maxRecDepth 100000
set_option maxHeartbeats 0
set_option pp.deepTerms false
set_option pp.deepTerms.threshold 8


namespace KT
open PySem PySem.Spec PyProof.Rows L2 DL
abbrev s_NoOrder___init : Stmt := inClass (top 4) 0
theorem sc_NoOrder___init : FnScope ["self", "number"] ["self", "number"] (defScope s_NoOrder___init) := ⟨rfl, rfl, rfl, by decide +kernel, rfl, by decide +kernel, by decide +kernel⟩
theorem ok_NoOrder {P : Program} {w : World} {K : PySem.W.Frag} {mg : Str → Option Value} {base : Heap} {B : Addr} {f : Addr} {fd : FuncData} (F : Fun K "__init__" "NoOrder.__init__" s_NoOrder___init f fd) (ox : OexC K B) (nw0 : PySem.W.findIn K (.ref B) "number" = some none) : FnOk P w K mg base CX0 1 f fd ["self", "number"] (ErrR K B ["number"]) :=
  ok_err1 F sc_NoOrder___init ox nw0 fun cdv A outer s H E => pss_one (ps_ost (pv 0) (pv 1))
/-- plain data and its type -/
inductive Pl : D → String → Prop
  | non : Pl .non "NoneType"
  | bl (b : Bool) : Pl (.bl b) "bool"
  | int (i : Int) : Pl (.int i) "int"
  | str (s : Str) : Pl (.str s) "str"
  | lst (l : List D) : Pl (.lst l) "list"
  | tup (l : List D) : Pl (.tup l) "tuple"
theorem Pl.ty {K : PySem.W.Frag} {x : D} {n : String} (h : Pl x n) : TyD K x (.type n) := by
  cases h
  · exact .non
  · exact .bl _
  · exact .int _
  · exact .str _
  · exact .lst _
  · exact .tup _
def isI : D → Bool
  | .int _ => true
  | _ => false
def low (z : Str) : Bool := z.cps.toList.all fun c => decide (c ∈ (Str.ofString "abcdefghijklmnopqrstuvwxyz").cps.toList)
def nmB (z : Str) : Bool := decide (1 ≤ z.length) && decide (z.length ≤ 12) && low z
def nmD : D → Bool
  | .str z => nmB z
  | _ => false
section
variable {P : Program} {w : World} {K : PySem.W.Frag} {mg : Str → Option Value} {base : Heap}
def sdIntX : SpD := fun as Q _ => ∃ (x : D) (n : String), as = [.d x] ∧ Pl x n ∧ Q (.d (.bl (isI x))) []
theorem ok_integerX {f : Addr} {fd : FuncData} (G : Fun K "is_integer" "is_integer" s_is_integer f fd) (T : TxtN mg) : FnOk P w K mg base (L2.CX P w) 1 f fd ["thing"] (spOf K sdIntX) := by
  refine okD G sc_is_integer [] (fun as Q E ⟨xs, n, e, _⟩ => by subst e; exact ⟨rfl, rfl⟩) ⟨_, fun cdv A outer s H E ad F0 H0 hr => (pds_one (psd_ret (pd_and (pd_builtB (fun h => pe_callB call_isi (by rfl) T.b_isinstance (by decide +kernel) h) (cn_isi (K := K)).op (pda_cons (pd_var (pv 0)) (pda_cons (pd_const (pe_bltn (v := .ty "int") (by rfl) T.b_int (by decide +kernel) rfl) (fun _ => .ty _)) pda_nil))) (pd_one (pd_not (pd_builtB (fun h => pe_callB call_isi (by rfl) T.b_isinstance (by decide +kernel) h) (cn_isi (K := K)).op (pda_cons (pd_var (pv 0)) (pda_cons (pd_const (pe_bltn (v := .ty "bool") (by rfl) T.b_bool (by decide +kernel) rfl) (fun _ => .ty _)) pda_nil)))))))), ?_⟩
  rintro as Qd Ed ⟨x, n, rfl, hx, k⟩
  refine DR.start (δ' := [some (.d x)]) rfl ?_
  walk_at "dd"
  cases hx with
  | non => exact ⟨_, _, _, _, false, rfl, .ty _, .non, by rfl, DR.nost_b, by walk_at "dd"; exact k⟩
  | bl b =>
    refine ⟨_, _, _, _, true, rfl, .ty _, .bl _, by rfl, ?_⟩
    walk_at "dd"
    refine ⟨_, _, _, _, true, rfl, .ty _, .bl _, kit_self, ?_⟩
    walk_at "dd"
    exact k
  | int i =>
    refine ⟨_, _, _, _, true, rfl, .ty _, .int _, kit_self, ?_⟩
    walk_at "dd"
    refine ⟨_, _, _, _, false, rfl, .ty _, .int _, by rfl, ?_⟩
    walk_at "dd"
    exact k
  | str s => exact ⟨_, _, _, _, false, rfl, .ty _, .str _, by rfl, DR.nost_b, by walk_at "dd"; exact k⟩
  | lst l => exact ⟨_, _, _, _, false, rfl, .ty _, .lst _, by rfl, DR.nost_b, by walk_at "dd"; exact k⟩
  | tup l => exact ⟨_, _, _, _, false, rfl, .ty _, .tup _, by rfl, DR.nost_b, by walk_at "dd"; exact k⟩
def sdNameX : SpD := fun as Q _ => ∃ (x : D) (n : String), as = [.d x] ∧ Pl x n ∧ (∀ z, x = .str z → z.length ≤ 1000) ∧ Q (.d (.bl (nmD x))) []
theorem ok_nameX {f : Addr} {fd : FuncData} (G : Fun K "is_name" "is_name" s_is_name f fd) (T : TxtN mg) : FnOk P w K mg base (L2.CX P w) 1 f fd ["thing"] (spOf K sdNameX) := by
  obtain ⟨_, k__LETTERS⟩ := T.k__LETTERS
  obtain ⟨_, k__LONGEST_NAME⟩ := T.k__LONGEST_NAME
  refine okD G sc_is_name [] (fun as Q E ⟨xs, n, e, _⟩ => by subst e; exact ⟨rfl, rfl⟩) ⟨_, fun cdv A outer s H E ad F0 H0 hr => (pds_cons (psd_if (PW.pt (pwd_or (ptd_not (ptd_val (pd_builtB (fun h => pe_callB call_isi (by rfl) T.b_isinstance (by decide +kernel) h) (cn_isi (K := K)).op (pda_cons (pd_var (pv 0)) (pda_cons (pd_const (pe_bltn (v := .ty "str") (by rfl) T.b_str (by decide +kernel) rfl) (fun _ => .ty _)) pda_nil))) (fun h => pt_val h))) (pwd_or1 (ptd_not (ptd_chain op_le (op2_I0 fun _ _ _ => .bl _) op_le (op2_I0 fun _ _ _ => .bl _) (pd_const pe_int (fun _ => .int _)) (pd_builtB (fun h => pe_callB call_len_str (by rfl) T.b_len (by decide +kernel) h) cn_lenS.op (pda_cons (pd_var (pv 0)) pda_nil)) (pd_const (pe_glob (v := (.int 12)) rfl k__LONGEST_NAME ⟨_, rfl⟩) (fun _ => .int _)) (by with_unfolding_all rfl)))))) (pds_one (psd_ret (pd_const pe_bl (fun _ => .bl _)))) pds_nil)
      (pds_one (psd_ret (pd_builtB (fun h => pe_callB (cr_all rfl) (by rfl) T.b_all (by decide +kernel) h) cn_all.op (pda_cons (pd_lc (own := [("letter", 1)]) (by rfl) sc_is_name.nd (pid_str (pd_var (pv 0))) (blkOk_by (own := [("letter", 1)]) (N := ["thing", "letter"]) (sc := defScope s_is_name) (by decide +kernel)) (fun _ _ _ _ _ => (pgd_name (i := 1) (vs := [1]) (pg_name (i := 1) sc_is_name.nd rfl (.inl rfl)) (by show ¬ (1 ∈ ([] : List Nat)); decide) (by decide))) (fun _ _ _ _ _ => ptsd_nil) (fun _ _ _ _ _ => (pd_cmp op_in_sign op2_inSign.op (pd_var (pv 1)) (pd_const (pe_glob (v := (.str "abcdefghijklmnopqrstuvwxyz")) rfl k__LETTERS ⟨_, rfl⟩) (fun _ => .str (by decide +kernel))) rfl)) (by show ∀ i ∈ ([1] : List Nat), ¬ (i ∈ ([] : List Nat)); decide)) pda_nil))))), ?_⟩
  rintro as Qd Ed ⟨x, n, rfl, hx, hz, k⟩
  refine DR.start (δ' := [some (.d x), none]) rfl ?_
  walk_at "dd"
  cases hx with
  | str g =>
    have hz := hz g rfl
    refine ⟨_, _, _, _, true, rfl, .ty _, .str _, kit_self, ?_⟩
    walk_at "dd"
    refine ⟨Nat.le_trans hz (by decide), ?_⟩
    walk_at "dd"
    by_cases c1 : 1 ≤ g.length
    · rw [show decide (1 ≤ (g.length : Int)) = true from decide_eq_true (by omega)]
      walk_at "dd"
      by_cases c2 : g.length ≤ 12
      · rw [show decide ((g.length : Int) ≤ 12) = true from decide_eq_true (by omega)]
        walk_at "dd"
        refine DR.lc_mapM (fun c => D.bl (decide (c ∈ (Str.ofString "abcdefghijklmnopqrstuvwxyz").cps.toList))) (fun ch acc N hc hl kN => ?_) ?_
        · walk_at "dd"
          refine ⟨Nat.lt_of_lt_of_le hl (Nat.le_trans (show g.cps.toList.length ≤ 1000 by rw [Array.length_toList]; exact hz) (by decide)), ?_⟩
          rw [if_neg Bool.false_ne_true]
          exact kN
        · walk_at "dd"
          refine ⟨g.cps.toList.map fun c => decide (c ∈ (Str.ofString "abcdefghijklmnopqrstuvwxyz").cps.toList), .inl (by rw [List.map_map]; rfl), ?_⟩
          walk_at "dd"
          rw [show nmD (.str g) = low g by show nmB g = _; unfold nmB; rw [decide_eq_true c1, decide_eq_true c2]; rfl] at k
          dsimp only
          rw [List.all_map]
          exact k
      · rw [show decide ((g.length : Int) ≤ 12) = false from decide_eq_false (by omega)]
        walk_at "dd"
        rw [show nmD (.str g) = false by show nmB g = _; unfold nmB; rw [decide_eq_false c2, Bool.and_false]; rfl] at k
        exact k
    · rw [show decide (1 ≤ (g.length : Int)) = false from decide_eq_false (by omega)]
      walk_at "dd"
      rw [show nmD (.str g) = false by show nmB g = _; unfold nmB; rw [decide_eq_false c1]; rfl] at k
      exact k
  | non =>
    refine ⟨_, _, _, _, false, rfl, .ty _, .non, by rfl, ?_⟩
    walk_at "dd"
    exact k
  | bl b =>
    refine ⟨_, _, _, _, false, rfl, .ty _, .bl _, by rfl, ?_⟩
    walk_at "dd"
    exact k
  | int i =>
    refine ⟨_, _, _, _, false, rfl, .ty _, .int _, by rfl, ?_⟩
    walk_at "dd"
    exact k
  | lst l =>
    refine ⟨_, _, _, _, false, rfl, .ty _, .lst _, by rfl, ?_⟩
    walk_at "dd"
    exact k
  | tup l =>
    refine ⟨_, _, _, _, false, rfl, .ty _, .tup _, by rfl, ?_⟩
    walk_at "dd"
    exact k
/-! ### goods -/
end
theorem low_ok {z : Str} (h : low z = true) : ∀ c ∈ z.cps.toList, 97 ≤ c ∧ c ≤ 122 := fun c hc => by
  have q := of_decide_eq_true (List.all_eq_true.mp h c hc)
  have e : ∀ c ∈ (Str.ofString "abcdefghijklmnopqrstuvwxyz").cps.toList, 97 ≤ c ∧ c ≤ 122 := by decide +kernel
  exact e c q
theorem nmB_nm {z : Str} (h : nmB z = true) (hc : z ≠ cash) : Nm z := by
  unfold nmB at h
  rw [Bool.and_eq_true, Bool.and_eq_true] at h
  exact ⟨hc, of_decide_eq_true h.1.1, of_decide_eq_true h.1.2, low_ok h.2⟩
theorem nm_nmB {z : Str} (h : Nm z) : nmB z = true := by
  obtain ⟨_, h1, h2, h3⟩ := h
  unfold nmB low
  rw [decide_eq_true h1, decide_eq_true h2, Bool.true_and, Bool.true_and]
  exact List.all_eq_true.mpr fun c hc => decide_eq_true (in_abz (h3 c hc))
section
variable {P : Program} {w : World} {K : PySem.W.Frag} {mg : Str → Option Value} {base : Heap}
def sdThing : SpD := fun as Q _ => ∃ g : Str, as = [.d (.str g)] ∧ Nm g ∧ Q (.d (.bl true)) []
abbrev s_is_thing_name : Stmt := top 14
theorem sc_is_thing_name : FnScope ["thing"] ["thing"] (defScope s_is_thing_name) := ⟨rfl, rfl, rfl, by decide +kernel, rfl, by decide +kernel, by decide +kernel⟩
theorem ok_thing (D_is_name : DefD P w K mg base "is_name" 1 ["thing"] sdNameX) {f : Addr} {fd : FuncData} (G : Fun K "is_thing_name" "is_thing_name" s_is_thing_name f fd) (T : TxtN mg) : FnOk P w K mg base (L2.CX P w) 3 f fd ["thing"] (spOf K sdThing) := by
  obtain ⟨_, k__CASH⟩ := T.k__CASH
  refine okD G sc_is_thing_name [] (fun as Q E ⟨xs, e, _⟩ => by subst e; exact ⟨rfl, rfl⟩) ⟨_, fun cdv A outer s H E ad F0 H0 hr => (pds_one (psd_ret (pd_and (pd_call D_is_name.ok (hr.mono (by decide)) (by rfl) D_is_name.mg D_is_name.kp D_is_name.b (takes_of rfl rfl rfl rfl) (pda_cons (pd_var (pv 0)) pda_nil)) (pd_one (pd_cmp op_ne op2_ne.op (pd_var (pv 0)) (pd_const (pe_glob (v := (.str "cash")) rfl k__CASH ⟨_, rfl⟩) (fun _ => .str (by decide +kernel))) (nomark _)))))), ?_⟩
  rintro as Qd Ed ⟨g, rfl, hg, k⟩
  refine DR.start (δ' := [some (.d (.str g))]) rfl ?_
  walk_at "dd"
  refine ⟨.str g, "str", rfl, .str g, fun z e => by cases e; exact Nat.le_trans hg.2.2.1 (by decide), ?_⟩
  rw [show nmD (.str g) = true from nm_nmB hg]
  walk_at "dd"
  rw [if_pos rfl, show decide (V.str g = V.str (Str.ofString "cash")) = false from decide_eq_false fun e => hg.1 (V.str.inj e)]
  exact k
def sdWholeR : SpD := fun as Q _ => ∃ i lo hi : Int, as = [.d (.int i), .d (.int lo), .d (.int hi)] ∧ lo ≤ i ∧ i ≤ hi ∧ Q (.d (.bl true)) []
abbrev s_is_whole : Stmt := top 12
theorem sc_is_whole : FnScope ["thing", "low", "high"] ["thing", "low", "high"] (defScope s_is_whole) := ⟨rfl, rfl, rfl, by decide +kernel, rfl, by decide +kernel, by decide +kernel⟩
theorem ok_wholeR (D_is_integer : DefD P w K mg base "is_integer" 1 ["thing"] sdIntX) {f : Addr} {fd : FuncData} (G : Fun K "is_whole" "is_whole" s_is_whole f fd) (T : TxtN mg) : FnOk P w K mg base (L2.CX P w) 3 f fd ["thing", "low", "high"] (spOf K sdWholeR) := by
  refine okD G sc_is_whole [] (fun as Q E ⟨a, b, c, e, _⟩ => by subst e; exact ⟨rfl, rfl⟩) ⟨_, fun cdv A outer s H E ad F0 H0 hr => (pds_one (psd_ret (pd_and (pd_call D_is_integer.ok (hr.mono (by decide)) (by rfl) D_is_integer.mg D_is_integer.kp D_is_integer.b (takes_of rfl rfl rfl rfl) (pda_cons (pd_var (pv 0)) pda_nil)) (pd_one (pd_chain op_le (op2_I0 fun _ _ _ => .bl _) op_le (op2_I0 fun _ _ _ => .bl _) (pd_var (pv 1)) (pd_var (pv 0)) (pd_var (pv 2)) (by with_unfolding_all rfl)))))), ?_⟩
  rintro as Qd Ed ⟨i, lo, hi, rfl, h1, h2, k⟩
  refine DR.start (δ' := [some (.d (.int i)), some (.d (.int lo)), some (.d (.int hi))]) rfl ?_
  walk_at "dd"
  refine ⟨.int i, "int", rfl, .int i, ?_⟩
  rw [show isI (.int i) = true from rfl]
  walk_at "dd"
  rw [show decide (lo ≤ i) = true from decide_eq_true h1]
  walk_at "dd"
  rw [show decide (i ≤ hi) = true from decide_eq_true h2]
  exact k
end
end KT

set_option Elab.async false
set_option linter.all false
set_option maxRecDepth 100000
set_option maxHeartbeats 0
set_option pp.deepTerms false
set_option pp.deepTerms.threshold 8


namespace KT
open PySem PySem.Spec PyProof.Rows L2 DL
/-! orders -/
structure Od where
  m : Str
  t : Str
  b : Bool
  n : Int
  l : Int
  deriving DecidableEq
def side (b : Bool) : Str := if b then "buy" else "sell"
def sgn (b : Bool) : Int := if b then 1 else -1
def OdOk (o : Od) : Prop := Nm o.m ∧ Nm o.t ∧ 1 ≤ o.n ∧ o.n ≤ 1000000 ∧ -1000000000000 ≤ o.l ∧ o.l ≤ 1000000000000
abbrev odF (m t : Str) (b : Bool) (n l : Int) : List (Str × D) := [("member", .str m), ("thing", .str t), ("side", .str (side b)), ("count", .int n), ("limit", .int l)]
abbrev odD (C : Addr) (o : Od) : D := .obj C (odF o.m o.t o.b o.n o.l)
structure TxtO (K : PySem.W.Frag) (mg : Str → Option Value) (C : Addr) : Prop extends TxtN mg where
  c_Order : mg "Order" = some (.ref C)
  cl_Order : Cls K C
  na_Order : ∀ n : Str, (["member", "thing", "side", "count", "limit"] : List Str).contains n = true → NoAttr K C n
  cr_Order : ClX.CRead K C (.type "type")
  v_Order_BUY : ∃ u, ClX.CVal K C (.type "type") "BUY" (.str "buy") u
  v_Order_SELL : ∃ u, ClX.CVal K C (.type "type") "SELL" (.str "sell") u
  si_Order : SlX.SIsi K C
theorem kit_own {K : PySem.W.Frag} {C : Addr} : PySem.W.kitOne K (.ref C) (.ref C) = some true := by
  unfold PySem.W.kitOne
  exact if_pos (beq_iff_eq.mpr rfl)
theorem side_buy (b : Bool) : decide (side b = Str.ofString "buy") = b := by cases b <;> decide +kernel
theorem side_sell (b : Bool) : decide (side b = Str.ofString "sell") = !b := by cases b <;> decide +kernel
theorem side_eq (b c : Bool) : decide (side b = side c) = decide (b = c) := by cases b <;> cases c <;> decide +kernel
theorem str_eqV (a b : Str) : decide (V.str a = V.str b) = decide (a = b) := decide_eq_decide.mpr ⟨fun e => V.str.inj e, fun e => congrArg _ e⟩
theorem int_eqV (a b : Int) : decide (V.int a = V.int b) = decide (a = b) := decide_eq_decide.mpr ⟨fun e => V.int.inj e, fun e => congrArg _ e⟩
section
variable {P : Program} {w : World} {K : PySem.W.Frag} {mg : Str → Option Value} {base : Heap} {C : Addr}
def sdOInit (C : Addr) : SpD := fun as Q _ => ∃ (m t : Str) (b : Bool) (n l : Int), as = [.own (.ins C []), .d (.str m), .d (.str t), .d (.str (side b)), .d (.int n), .d (.int l)] ∧ OdOk ⟨m, t, b, n, l⟩ ∧ Q (.d .non) [.ins C (odF m t b n l)]
abbrev s_Order___init : Stmt := inClass (top 16) 2
theorem sc_Order___init : FnScope ["self", "member", "thing", "side", "count", "limit"] ["self", "member", "thing", "side", "count", "limit"] (defScope s_Order___init) := ⟨rfl, rfl, rfl, by decide +kernel, rfl, by decide +kernel, by decide +kernel⟩
theorem ok_oinit (D_is_name : DefD P w K mg base "is_name" 1 ["thing"] sdNameX) (D_is_thing_name : DefD P w K mg base "is_thing_name" 3 ["thing"] sdThing) (D_is_whole : DefD P w K mg base "is_whole" 3 ["thing", "low", "high"] sdWholeR) {f : Addr} {fd : FuncData} (G : Fun K "__init__" "Order.__init__" s_Order___init f fd) (T : TxtO K mg C) : FnOk P w K mg base (L2.CX P w) 5 f fd ["self", "member", "thing", "side", "count", "limit"] (spOf K (sdOInit C)) := by
  obtain ⟨_, k_MOST⟩ := T.k_MOST
  obtain ⟨_, k_MOST_COUNT⟩ := T.k_MOST_COUNT
  refine okD G sc_Order___init [0] (fun as Q E ⟨m, t, b, n, l, e, _⟩ => by subst e; exact ⟨rfl, rfl⟩) ⟨_, fun cdv A outer s H E ad F0 H0 hr => (pds_cons (psd_if (ptd_not (ptd_val (pd_call D_is_name.ok (hr.mono (by decide)) (by rfl) D_is_name.mg D_is_name.kp D_is_name.b (takes_of rfl rfl rfl rfl) (pda_cons (pd_var (pv 1)) pda_nil)) (fun h => pt_val h))) (pds_one psd_never) pds_nil)
      (pds_cons (psd_if (ptd_not (ptd_val (pd_call D_is_thing_name.ok (hr.mono (by decide)) (by rfl) D_is_thing_name.mg D_is_thing_name.kp D_is_thing_name.b (takes_of rfl rfl rfl rfl) (pda_cons (pd_var (pv 2)) pda_nil)) (fun h => pt_val h))) (pds_one psd_never) pds_nil)
      (pds_cons (psd_if (PW.pt (pwd_and (ptd_cmp op_ne op2_ne.op (pd_var (pv 3)) (pd_cval (pe_glob (v := .ref C) rfl T.c_Order rfl) T.cr_Order T.v_Order_BUY (fun _ => .str (by decide +kernel))) (nomark _)) (pwd_and1 (ptd_cmp op_ne op2_ne.op (pd_var (pv 3)) (pd_cval (pe_glob (v := .ref C) rfl T.c_Order rfl) T.cr_Order T.v_Order_SELL (fun _ => .str (by decide +kernel))) (nomark _))))) (pds_one psd_never) pds_nil)
      (pds_cons (psd_if (ptd_not (ptd_val (pd_call D_is_whole.ok (hr.mono (by decide)) (by rfl) D_is_whole.mg D_is_whole.kp D_is_whole.b (takes_of rfl rfl rfl rfl) (pda_cons (pd_var (pv 4)) (pda_cons (pd_const pe_int (fun _ => .int _)) (pda_cons (pd_const (pe_glob (v := (.int (10 ^ 6))) rfl k_MOST_COUNT ⟨_, rfl⟩) (fun _ => .int _)) pda_nil)))) (fun h => pt_val h))) (pds_one psd_never) pds_nil)
      (pds_cons (psd_if (ptd_not (ptd_val (pd_call D_is_whole.ok (hr.mono (by decide)) (by rfl) D_is_whole.mg D_is_whole.kp D_is_whole.b (takes_of rfl rfl rfl rfl) (pda_cons (pd_var (pv 5)) (pda_cons (pd_neg (pd_const (pe_glob (v := (.int (10 ^ 12))) rfl k_MOST ⟨_, rfl⟩) (fun _ => .int _))) (pda_cons (pd_const (pe_glob (v := (.int (10 ^ 12))) rfl k_MOST ⟨_, rfl⟩) (fun _ => .int _)) pda_nil)))) (fun h => pt_val h))) (pds_one psd_never) pds_nil)
      (pds_cons (psd_fld (i := 0) (pv 0) (pd_var (pv 1)) T.cl_Order (T.na_Order _ (by decide)) rfl)
      (pds_cons (psd_fld (i := 0) (pv 0) (pd_var (pv 2)) T.cl_Order (T.na_Order _ (by decide)) rfl)
      (pds_cons (psd_fld (i := 0) (pv 0) (pd_var (pv 3)) T.cl_Order (T.na_Order _ (by decide)) rfl)
      (pds_cons (psd_fld (i := 0) (pv 0) (pd_var (pv 4)) T.cl_Order (T.na_Order _ (by decide)) rfl)
      (pds_one (psd_fld (i := 0) (pv 0) (pd_var (pv 5)) T.cl_Order (T.na_Order _ (by decide)) rfl))))))))))), ?_⟩
  rintro as Qd Ed ⟨m, t, b, n, l, rfl, ⟨hm, ht, n1, n2, l1, l2⟩, k⟩
  refine DR.start (δ' := [some (.own (.ins C [])), some (.d (.str m)), some (.d (.str t)), some (.d (.str (side b))), some (.d (.int n)), some (.d (.int l))]) rfl ?_
  walk_at "dd"
  refine ⟨.str m, "str", rfl, .str m, fun z e => by cases e; exact Nat.le_trans hm.2.2.1 (by decide), ?_⟩
  rw [show nmD (.str m) = true from nm_nmB hm]
  walk_at "dd"
  refine ⟨t, rfl, ht, ?_⟩
  walk_at "dd"
  rw [side_buy]
  have fin : ∀ (x : Prop), x → x := fun _ h => h
  cases b with
  | true =>
    walk_at "dd"
    refine ⟨n, 1, 1000000, rfl, n1, n2, ?_⟩
    walk_at "dd"
    refine ⟨l, _, _, rfl, l1, l2, ?_⟩
    walk_at "dd"
    exact k
  | false =>
    walk_at "dd"
    rw [side_sell, Bool.not_not]
    walk_at "dd"
    refine ⟨n, 1, 1000000, rfl, n1, n2, ?_⟩
    walk_at "dd"
    refine ⟨l, _, _, rfl, l1, l2, ?_⟩
    walk_at "dd"
    exact k
def sdSign (C : Addr) : SpD := fun as Q _ => ∃ o : Od, as = [.d (odD C o)] ∧ Q (.d (.int (sgn o.b))) []
abbrev s_Order_sign : Stmt := inClass (top 16) 3
theorem sc_Order_sign : FnScope ["self"] ["self"] (defScope s_Order_sign) := ⟨rfl, rfl, rfl, by decide +kernel, rfl, by decide +kernel, by decide +kernel⟩
theorem ok_sign {f : Addr} {fd : FuncData} (G : Fun K "sign" "Order.sign" s_Order_sign f fd) (T : TxtO K mg C) : FnOk P w K mg base (L2.CX P w) 1 f fd ["self"] (spOf K (sdSign C)) := by
  refine okD G sc_Order_sign [] (fun as Q E ⟨o, e, _⟩ => by subst e; exact ⟨rfl, rfl⟩) ⟨_, fun cdv A outer s H E ad F0 H0 hr => (pds_one (psd_ret (pd_ifExp (ptd_cmp op_eq op2_eq.op (pd_fld (pd_var (pv 0)) T.cl_Order (T.na_Order _ (by decide)) rfl) (pd_cval (pe_glob (v := .ref C) rfl T.c_Order rfl) T.cr_Order T.v_Order_BUY (fun _ => .str (by decide +kernel))) (nomark _)) (pd_const pe_int (fun _ => .int _)) (pd_neg (pd_const pe_int (fun _ => .int _)))))), ?_⟩
  rintro as Qd Ed ⟨⟨m, t, b, n, l⟩, rfl, k⟩
  refine DR.start (δ' := [some (.d (odD C ⟨m, t, b, n, l⟩))]) rfl ?_
  walk_at "dd"
  rw [side_buy]
  cases b with
  | true =>
    walk_at "dd"
    exact k
  | false =>
    walk_at "dd"
    exact k
def sdOfCount (C : Addr) : SpD := fun as Q _ => ∃ (o : Od) (j : Int), as = [.d (odD C o), .d (.int j)] ∧ OdOk o ∧ 1 ≤ j ∧ j ≤ 1000000 ∧ Q (.d (odD C { o with n := j })) []
abbrev s_Order_of_count : Stmt := inClass (top 16) 4
theorem sc_Order_of_count : FnScope ["self", "count"] ["self", "count"] (defScope s_Order_of_count) := ⟨rfl, rfl, rfl, by decide +kernel, rfl, by decide +kernel, by decide +kernel⟩
theorem ok_ofcount (D_Order___init : DefN P w K mg base C 5 ["self", "member", "thing", "side", "count", "limit"] (sdOInit C)) {f : Addr} {fd : FuncData} (G : Fun K "of_count" "Order.of_count" s_Order_of_count f fd) (T : TxtO K mg C) : FnOk P w K mg base (L2.CX P w) 7 f fd ["self", "count"] (spOf K (sdOfCount C)) := by
  refine okD G sc_Order_of_count [] (fun as Q E ⟨o, j, e, _⟩ => by subst e; exact ⟨rfl, rfl⟩) ⟨_, fun cdv A outer s H E ad F0 H0 hr => (pds_one (psd_ret (pd_make D_Order___init.made D_Order___init.ok (hr.mono (by decide)) (by rfl) T.c_Order D_Order___init.b (takes_of rfl rfl rfl rfl) (pda_cons (pd_fld (pd_var (pv 0)) T.cl_Order (T.na_Order _ (by decide)) rfl) (pda_cons (pd_fld (pd_var (pv 0)) T.cl_Order (T.na_Order _ (by decide)) rfl) (pda_cons (pd_fld (pd_var (pv 0)) T.cl_Order (T.na_Order _ (by decide)) rfl) (pda_cons (pd_var (pv 1)) (pda_cons (pd_fld (pd_var (pv 0)) T.cl_Order (T.na_Order _ (by decide)) rfl) pda_nil)))))))), ?_⟩
  rintro as Qd Ed ⟨⟨m, t, b, n, l⟩, j, rfl, ho, j1, j2, k⟩
  refine DR.start (δ' := [some (.d (odD C ⟨m, t, b, n, l⟩)), some (.d (.int j))]) rfl ?_
  walk_at "dd"
  refine ⟨m, t, b, j, l, rfl, ⟨ho.1, ho.2.1, j1, j2, ho.2.2.2.2⟩, rfl, _, _, rfl, ?_⟩
  walk_at "dd"
  exact k
def sdOEq (C : Addr) : SpD := fun as Q _ => ∃ o p : Od, as = [.d (odD C o), .d (odD C p)] ∧ Q (.d (.bl (decide (o = p)))) []
abbrev s_Order___eq : Stmt := inClass (top 16) 5
theorem sc_Order___eq : FnScope ["self", "other"] ["self", "other"] (defScope s_Order___eq) := ⟨rfl, rfl, rfl, by decide +kernel, rfl, by decide +kernel, by decide +kernel⟩
theorem od_ext {o p : Od} : decide (o = p) = (decide (o.m = p.m) && (decide (o.t = p.t) && (decide (o.b = p.b) && (decide (o.n = p.n) && decide (o.l = p.l))))) := by
  obtain ⟨m, t, b, n, l⟩ := o
  obtain ⟨m', t', b', n', l'⟩ := p
  simp only [Od.mk.injEq, Bool.decide_and]
theorem ok_oeq {f : Addr} {fd : FuncData} (G : Fun K "__eq__" "Order.__eq__" s_Order___eq f fd) (T : TxtO K mg C) : FnOk P w K mg base (L2.CX P w) 1 f fd ["self", "other"] (spOf K (sdOEq C)) := by
  refine okD G sc_Order___eq [] (fun as Q E ⟨o, j, e, _⟩ => by subst e; exact ⟨rfl, rfl⟩) ⟨_, fun cdv A outer s H E ad F0 H0 hr => (pds_one (psd_ret (pd_and (pd_builtB (fun h => pe_callB call_isi (by rfl) T.b_isinstance (by decide +kernel) h) (cn_isi (K := K)).op (pda_cons (pd_var (pv 1)) (pda_cons (pd_const (pe_glob (v := .ref C) rfl T.c_Order rfl) (fun _ => .adr _)) pda_nil))) (pd_and (pd_cmp op_eq op2_eq.op (pd_fld (pd_var (pv 0)) T.cl_Order (T.na_Order _ (by decide)) rfl) (pd_fld (pd_var (pv 1)) T.cl_Order (T.na_Order _ (by decide)) rfl) (nomark _)) (pd_and (pd_cmp op_eq op2_eq.op (pd_fld (pd_var (pv 0)) T.cl_Order (T.na_Order _ (by decide)) rfl) (pd_fld (pd_var (pv 1)) T.cl_Order (T.na_Order _ (by decide)) rfl) (nomark _)) (pd_and (pd_cmp op_eq op2_eq.op (pd_fld (pd_var (pv 0)) T.cl_Order (T.na_Order _ (by decide)) rfl) (pd_fld (pd_var (pv 1)) T.cl_Order (T.na_Order _ (by decide)) rfl) (nomark _)) (pd_and (pd_cmp op_eq op2_eq.op (pd_fld (pd_var (pv 0)) T.cl_Order (T.na_Order _ (by decide)) rfl) (pd_fld (pd_var (pv 1)) T.cl_Order (T.na_Order _ (by decide)) rfl) (nomark _)) (pd_one (pd_cmp op_eq op2_eq.op (pd_fld (pd_var (pv 0)) T.cl_Order (T.na_Order _ (by decide)) rfl) (pd_fld (pd_var (pv 1)) T.cl_Order (T.na_Order _ (by decide)) rfl) (nomark _)))))))))), ?_⟩
  rintro as Qd Ed ⟨o, p, rfl, k⟩
  refine DR.start (δ' := [some (.d (odD C o)), some (.d (odD C p))]) rfl ?_
  rw [od_ext] at k
  walk_at "dd"
  refine ⟨_, _, _, _, true, rfl, .own C, .obj T.cl_Order T.si_Order, kit_own, ?_⟩
  walk_at "dd"
  by_cases c1 : o.m = p.m
  · rw [decide_eq_true c1] at k ⊢
    walk_at "dd"
    by_cases c2 : o.t = p.t
    · rw [decide_eq_true c2] at k ⊢
      walk_at "dd"
      rw [side_eq]
      by_cases c3 : o.b = p.b
      · rw [decide_eq_true c3] at k ⊢
        walk_at "dd"
        by_cases c4 : o.n = p.n
        · rw [decide_eq_true c4] at k ⊢
          walk_at "dd"
          rw [if_neg Bool.false_ne_true, int_eqV]
          exact k
        · rw [decide_eq_false c4] at k ⊢
          walk_at "dd"
          exact k
      · rw [decide_eq_false c3] at k ⊢
        walk_at "dd"
        exact k
    · rw [decide_eq_false c2] at k ⊢
      walk_at "dd"
      exact k
  · rw [decide_eq_false c1] at k ⊢
    walk_at "dd"
    exact k
/-- two orders meet -/
def meetB (o p : Od) : Bool := !(decide (o.m = p.m) || (!decide (o.t = p.t) || decide (o.b = p.b))) && decide (0 ≤ sgn o.b * o.l + sgn p.b * p.l)
abbrev PSign (P : Program) (w : World) (K : PySem.W.Frag) (mg : Str → Option Value) (base : Heap) (C : Addr) := DefP P w K mg base C "sign" 1 ["self"] (sdSign C)
def sdMeets (C : Addr) : SpD := fun as Q _ => ∃ o p : Od, as = [.d (odD C o), .d (odD C p)] ∧ Q (.d (.bl (meetB o p))) []
abbrev s_meets : Stmt := top 17
theorem sc_meets : FnScope ["one", "other"] ["one", "other"] (defScope s_meets) := ⟨rfl, rfl, rfl, by decide +kernel, rfl, by decide +kernel, by decide +kernel⟩
theorem ok_meets (D_Order_sign : PSign P w K mg base C) {f : Addr} {fd : FuncData} (G : Fun K "meets" "meets" s_meets f fd) (T : TxtO K mg C) : FnOk P w K mg base (L2.CX P w) 3 f fd ["one", "other"] (spOf K (sdMeets C)) := by
  refine okD G sc_meets [] (fun as Q E ⟨o, j, e, _⟩ => by subst e; exact ⟨rfl, rfl⟩) ⟨_, fun cdv A outer s H E ad F0 H0 hr => (pds_cons (psd_if (PW.pt (pwd_or (ptd_cmp op_eq op2_eq.op (pd_fld (pd_var (pv 0)) T.cl_Order (T.na_Order _ (by decide)) rfl) (pd_fld (pd_var (pv 1)) T.cl_Order (T.na_Order _ (by decide)) rfl) (nomark _)) (pwd_or (ptd_cmp op_ne op2_ne.op (pd_fld (pd_var (pv 0)) T.cl_Order (T.na_Order _ (by decide)) rfl) (pd_fld (pd_var (pv 1)) T.cl_Order (T.na_Order _ (by decide)) rfl) (nomark _)) (pwd_or1 (ptd_cmp op_eq op2_eq.op (pd_fld (pd_var (pv 0)) T.cl_Order (T.na_Order _ (by decide)) rfl) (pd_fld (pd_var (pv 1)) T.cl_Order (T.na_Order _ (by decide)) rfl) (nomark _)))))) (pds_one (psd_ret (pd_const pe_bl (fun _ => .bl _)))) pds_nil)
      (pds_one (psd_ret (pd_cmp op_ge (op2_I0 fun _ _ _ => .bl _) (pd_op op_add (op2_I0 fun _ _ _ => .int _) (pd_op op_mul (op2_I fun _ _ _ => .int _) (pd_prop (pd_var (pv 0)) T.cl_Order D_Order_sign.po D_Order_sign.ok (hr.mono (by decide)) D_Order_sign.b rfl) (pd_fld (pd_var (pv 0)) T.cl_Order (T.na_Order _ (by decide)) rfl)) (pd_op op_mul (op2_I fun _ _ _ => .int _) (pd_prop (pd_var (pv 1)) T.cl_Order D_Order_sign.po D_Order_sign.ok (hr.mono (by decide)) D_Order_sign.b rfl) (pd_fld (pd_var (pv 1)) T.cl_Order (T.na_Order _ (by decide)) rfl))) (pd_const pe_int (fun _ => .int _)) (nomark _))))), ?_⟩
  rintro as Qd Ed ⟨o, p, rfl, k⟩
  refine DR.start (δ' := [some (.d (odD C o)), some (.d (odD C p))]) rfl ?_
  unfold meetB at k
  walk_at "dd"
  by_cases c1 : o.m = p.m
  · rw [decide_eq_true c1] at k ⊢
    walk_at "dd"
    exact k
  rw [decide_eq_false c1] at k ⊢
  walk_at "dd"
  by_cases c2 : o.t = p.t
  · rw [decide_eq_true c2] at k ⊢
    walk_at "dd"
    rw [side_eq]
    by_cases c3 : o.b = p.b
    · rw [decide_eq_true c3] at k ⊢
      walk_at "dd"
      exact k
    · rw [decide_eq_false c3] at k ⊢
      walk_at "dd"
      refine ⟨o, rfl, ?_⟩
      walk_at "dd"
      have e1 : ∀ b : Bool, CMul (sgn b) o.l := fun b => by cases b <;> exact RD9.mull (by decide) (by decide)
      have e2 : ∀ b : Bool, CMul (sgn b) p.l := fun b => by cases b <;> exact RD9.mull (by decide) (by decide)
      refine ⟨e1 _, ?_⟩
      walk_at "dd"
      refine ⟨p, rfl, ?_⟩
      walk_at "dd"
      refine ⟨e2 _, ?_⟩
      walk_at "dd"
      exact k
      walk_at "dd"
      skip
  · rw [decide_eq_false c2] at k ⊢
    walk_at "dd"
    exact k
end
end KT

set_option Elab.async false
set_option linter.all false
set_option maxRecDepth 100000
set_option maxHeartbeats 0
set_option pp.deepTerms false
set_option pp.deepTerms.threshold 8


namespace KT
open PySem PySem.Spec PyProof.Rows L2 DL
/-! the matching of an order against resting ones -/
abbrev rwD (C : Addr) (r : Int × Od) : D := .tup [.int r.1, odD C r.2]
def kyR (r : Int × Od) : Int × Int := (-sgn r.2.b * r.2.l, r.1)
structure Fl where
  b : Str
  s : Str
  t : Str
  c : Int
  l : Int
abbrev flD (f : Fl) : D := .tup [.str f.b, .str f.s, .str f.t, .int f.c, .int f.l]
def fillF (p r : Od) (c : Int) : Fl := if p.b then ⟨p.m, r.m, p.t, c, r.l⟩ else ⟨r.m, p.m, p.t, c, r.l⟩
section
variable {P : Program} {w : World} {K : PySem.W.Frag} {mg : Str → Option Value} {base : Heap} {C : Addr}
def sdRank (C : Addr) : SpD := fun as Q _ => ∃ r : Int × Od, as = [.d (rwD C r)] ∧ Q (.d (.tup [.int (kyR r).1, .int (kyR r).2])) []
abbrev s_rank : Stmt := top 19
theorem sc_rank : FnScope ["row", "number", "order"] ["row"] (defScope s_rank) := ⟨rfl, rfl, rfl, by decide +kernel, rfl, by decide +kernel, by decide +kernel⟩
theorem ok_rank (D_Order_sign : PSign P w K mg base C) {f : Addr} {fd : FuncData} (G : Fun K "_rank" "_rank" s_rank f fd) (T : TxtO K mg C) : FnOk P w K mg base (L2.CX P w) 3 f fd ["row"] (spOf K (sdRank C)) := by
  refine okD G sc_rank [] (fun as Q E ⟨o, e, _⟩ => by subst e; exact ⟨rfl, rfl⟩) ⟨_, fun cdv A outer s H E ad F0 H0 hr => (pds_cons (psd_unpack (pd_var (pv 0)) (pgd_tup (is := [1, 2]) (vs := [1, 2]) (pg_tup rfl (pgs_cons (pg_name (i := 1) sc_rank.nd rfl (.inl rfl)) (pgs_cons (pg_name (i := 2) sc_rank.nd rfl (.inl rfl)) pgs_nil))) rfl (by show ∀ i ∈ ([1, 2] : List Nat), ¬ (i ∈ ([] : List Nat)) ∧ i ∈ ([1, 2] : List Nat); decide)) (fun h g => ps_asg h g))
      (pds_one (psd_ret (pd_tup (fun h => pe_tup h) (pda_cons (pd_op op_mul (op2_I fun _ _ _ => .int _) (pd_neg (pd_prop (pd_var (pv 2)) T.cl_Order D_Order_sign.po D_Order_sign.ok (hr.mono (by decide)) D_Order_sign.b rfl)) (pd_fld (pd_var (pv 2)) T.cl_Order (T.na_Order _ (by decide)) rfl)) (pda_cons (pd_var (pv 1)) pda_nil)))))), ?_⟩
  rintro as Qd Ed ⟨⟨i, o⟩, rfl, k⟩
  refine DR.start (δ' := [some (.d (rwD C (i, o))), none, none]) rfl ?_
  walk_at "dd"
  refine ⟨o, rfl, ?_⟩
  walk_at "dd"
  have e1 : ∀ b : Bool, CMul (-sgn b) o.l := fun b => by cases b <;> exact RD9.mull (by decide) (by decide)
  refine ⟨e1 _, ?_⟩
  walk_at "dd"
  exact k
def sdFill (C : Addr) : SpD := fun as Q _ => ∃ (p r : Od) (c : Int), as = [.d (odD C p), .d (odD C r), .d (.int c)] ∧ Q (.d (flD (fillF p r c))) []
abbrev s_fill : Stmt := top 20
theorem sc_fill : FnScope ["placed", "resting", "count", "buyer", "seller"] ["placed", "resting", "count"] (defScope s_fill) := ⟨rfl, rfl, rfl, by decide +kernel, rfl, by decide +kernel, by decide +kernel⟩
theorem ok_fill (D_Order_sign : PSign P w K mg base C) {f : Addr} {fd : FuncData} (G : Fun K "_fill" "_fill" s_fill f fd) (T : TxtO K mg C) : FnOk P w K mg base (L2.CX P w) 3 f fd ["placed", "resting", "count"] (spOf K (sdFill C)) := by
  refine okD G sc_fill [] (fun as Q E ⟨o, p, c, e, _⟩ => by subst e; exact ⟨rfl, rfl⟩) ⟨_, fun cdv A outer s H E ad F0 H0 hr => (pds_cons (psd_unpack (pd_ifExp (ptd_cmp op_gt (op2_I0 fun _ _ _ => .bl _) (pd_prop (pd_var (pv 0)) T.cl_Order D_Order_sign.po D_Order_sign.ok (hr.mono (by decide)) D_Order_sign.b rfl) (pd_const pe_int (fun _ => .int _)) (nomark _)) (pd_tup (fun h => pe_tup h) (pda_cons (pd_var (pv 0)) (pda_cons (pd_var (pv 1)) pda_nil))) (pd_tup (fun h => pe_tup h) (pda_cons (pd_var (pv 1)) (pda_cons (pd_var (pv 0)) pda_nil)))) (pgd_tup (is := [3, 4]) (vs := [3, 4]) (pg_tup rfl (pgs_cons (pg_name (i := 3) sc_fill.nd rfl (.inl rfl)) (pgs_cons (pg_name (i := 4) sc_fill.nd rfl (.inl rfl)) pgs_nil))) rfl (by show ∀ i ∈ ([3, 4] : List Nat), ¬ (i ∈ ([] : List Nat)) ∧ i ∈ ([3, 4] : List Nat); decide)) (fun h g => ps_asg h g))
      (pds_one (psd_ret (pd_tup (fun h => pe_tup h) (pda_cons (pd_fld (pd_var (pv 3)) T.cl_Order (T.na_Order _ (by decide)) rfl) (pda_cons (pd_fld (pd_var (pv 4)) T.cl_Order (T.na_Order _ (by decide)) rfl) (pda_cons (pd_fld (pd_var (pv 0)) T.cl_Order (T.na_Order _ (by decide)) rfl) (pda_cons (pd_var (pv 2)) (pda_cons (pd_fld (pd_var (pv 1)) T.cl_Order (T.na_Order _ (by decide)) rfl) pda_nil))))))))), ?_⟩
  rintro as Qd Ed ⟨p, r, c, rfl, k⟩
  refine DR.start (δ' := [some (.d (odD C p)), some (.d (odD C r)), some (.d (.int c)), none, none]) rfl ?_
  walk_at "dd"
  refine ⟨p, rfl, ?_⟩
  walk_at "dd"
  obtain ⟨pm, pt, pb, pn, pl⟩ := p
  unfold fillF at k
  cases pb with
  | true =>
    rw [show decide (0 < sgn true) = true from rfl]
    walk_at "dd"
    refine ⟨by show 5 ≤ sizeLine; decide, ?_⟩
    walk_at "dd"
    exact k
  | false =>
    rw [show decide (0 < sgn false) = false from rfl]
    walk_at "dd"
    refine ⟨by show 5 ≤ sizeLine; decide, ?_⟩
    walk_at "dd"
    exact k
end
end KT

set_option Elab.async false
set_option linter.all false
set_option maxRecDepth 100000
set_option maxHeartbeats 0
set_option pp.deepTerms false
set_option pp.deepTerms.threshold 8


namespace KT
open PySem PySem.Spec PyProof.Rows L2 DL
abbrev Rw := Int × Od
/-- what _rank tells of a row, read off the data -/
def kyD : D → Int × Int
  | .tup [.int i, .obj _ [_, _, (_, .str z), _, (_, .int l)]] => (-(if z = "buy" then 1 else -1) * l, i)
  | _ => (0, 0)
theorem kyD_row (C : Addr) (r : Rw) : kyD (rwD C r) = kyR r := by
  obtain ⟨i, m, t, b, n, l⟩ := r
  show (-(if side b = "buy" then 1 else -1) * l, i) = (-sgn b * l, i)
  cases b <;> rfl
def srt (rs : List Rw) (p : Od) : List Rw := (rs.filter fun r => meetB r.2 p).mergeSort (le2 kyR)
structure Ma where
  left : Int
  fs : List Fl
  tk : List (Key × D)
def stepM (p : Od) (s : Ma) (r : Rw) : Ma := if 0 < min s.left r.2.n then ⟨s.left - min s.left r.2.n, s.fs ++ [fillF p r.2 (min s.left r.2.n)], putKD s.tk (.inl r.1) (.int (min s.left r.2.n))⟩ else s
def mat (rs : List Rw) (p : Od) : Ma := (srt rs p).foldl (stepM p) ⟨p.n, [], []⟩
def TkOk (tk : List (Key × D)) : Prop := ∀ kv ∈ tk, ∃ (i c : Int), kv.1 = .inl i ∧ kv.2 = .int c ∧ 1 ≤ c
theorem putKD_len {kvs : List (Key × D)} {k : Key} {d : D} : (putKD kvs k d).length ≤ kvs.length + 1 := by
  unfold putKD
  split
  · rw [List.length_map]; omega
  · rw [List.length_append]; exact Nat.le_refl _
theorem tkOk_put {kvs : List (Key × D)} {i c : Int} (h : TkOk kvs) (hc : 1 ≤ c) : TkOk (putKD kvs (.inl i) (.int c)) := by
  unfold putKD
  split
  · intro kv hk
    obtain ⟨kv0, h0, e⟩ := List.mem_map.mp hk
    split at e
    · rename_i e2
      rw [← e]
      exact ⟨i, c, e2, rfl, hc⟩
    · rw [← e]; exact h _ h0
  · intro kv hk
    rcases List.mem_append.mp hk with hk | hk
    · exact h _ hk
    · rw [List.mem_singleton.mp hk]
      exact ⟨i, c, rfl, rfl, hc⟩
/-- what is so of each step -/
structure MaOk (p : Od) (k : Nat) (s : Ma) : Prop where
  lf : s.fs.length ≤ k
  lt : s.tk.length ≤ k
  tk : TkOk s.tk
  fc : ∀ f ∈ s.fs, 1 ≤ f.c
  le : s.left = p.n - (s.fs.map (·.c)).sum
theorem sum_nn : ∀ {l : List Fl}, (∀ f ∈ l, 1 ≤ f.c) → 0 ≤ (l.map (·.c)).sum
  | [], _ => Int.le_refl _
  | f :: l, h => by
    have h1 := h f List.mem_cons_self
    have h2 := sum_nn fun g hg => h g (List.mem_cons_of_mem _ hg)
    rw [List.map_cons, List.sum_cons]
    omega
theorem maOk_step {p : Od} {k : Nat} {s : Ma} (h : MaOk p k s) (r : Rw) : MaOk p (k + 1) (stepM p s r) := by
  unfold stepM
  split
  · rename_i c
    have hc : (fillF p r.2 (min s.left r.2.n)).c = min s.left r.2.n := by unfold fillF; cases p.b <;> rfl
    refine ⟨?_, Nat.le_trans putKD_len (by have := h.lt; omega), tkOk_put h.tk (by omega), fun f hf => ?_, ?_⟩
    · show (s.fs ++ [_]).length ≤ _
      rw [List.length_append]
      have := h.lf
      exact Nat.succ_le_succ this
    · rcases List.mem_append.mp hf with hf | hf
      · exact h.fc f hf
      · rw [List.mem_singleton.mp hf, hc]; omega
    · show s.left - min s.left r.2.n = p.n - ((s.fs ++ [fillF p r.2 (min s.left r.2.n)]).map (·.c)).sum
      have e := h.le
      rw [List.map_append, List.sum_append, List.map_cons, List.map_nil, List.sum_cons, List.sum_nil, hc]
      omega
  · exact ⟨Nat.le_succ_of_le h.lf, Nat.le_succ_of_le h.lt, h.tk, h.fc, h.le⟩
theorem maOk_fold {p : Od} : ∀ {l : List Rw} {k : Nat} {s : Ma}, MaOk p k s → MaOk p (k + l.length) (l.foldl (stepM p) s)
  | [], _, _, h => h
  | r :: l, k, s, h => by
    have := maOk_fold (l := l) (maOk_step h r)
    rw [List.foldl_cons, List.length_cons, show k + (l.length + 1) = k + 1 + l.length by omega]
    exact this
theorem maOk0 (p : Od) : MaOk p 0 ⟨p.n, [], []⟩ := ⟨Nat.le_refl _, Nat.le_refl _, (fun _ h => nomatch h), (fun _ h => nomatch h), by show p.n = p.n - ([] : List Int).sum; rw [List.sum_nil]; omega⟩
theorem srt_len {rs : List Rw} {p : Od} : (srt rs p).length ≤ rs.length := by
  unfold srt
  rw [List.length_mergeSort]
  exact List.length_filter_le ..
theorem mat_ok (rs : List Rw) (p : Od) : MaOk p rs.length (mat rs p) := by
  have h := maOk_fold (l := srt rs p) (maOk0 p)
  have hl := srt_len (rs := rs) (p := p)
  have h1 := h.lf
  have h2 := h.lt
  exact ⟨by unfold mat; omega, by unfold mat; omega, h.tk, h.fc, h.le⟩
theorem filterMap_if {α β : Type} {c : α → Bool} {g : α → β} : ∀ {l : List α}, l.filterMap (fun r => if c r = true then some (g r) else none) = (l.filter c).map g
  | [] => rfl
  | a :: l => by
    have ih := filterMap_if (c := c) (g := g) (l := l)
    cases h : c a with
    | true =>
      rw [List.filterMap_cons_some (b := g a) (by rw [h]; rfl), List.filter_cons_of_pos h, List.map_cons, ih]
    | false =>
      rw [List.filterMap_cons_none (by rw [h]; rfl), List.filter_cons_of_neg (by rw [h]; exact Bool.false_ne_true), ih]
theorem srt_map (C : Addr) (rs : List Rw) (p : Od) : ((rs.filter fun r => meetB r.2 p).map (rwD C)).mergeSort (le2 kyD) = (srt rs p).map (rwD C) := by
  unfold srt
  refine (List.map_mergeSort fun a _ b _ => ?_).symm
  show le2 kyR a b = le2 kyD (rwD C a) (rwD C b)
  unfold le2
  rw [kyD_row, kyD_row]
theorem foldl_take {α β : Type} {f : β → α → β} {l : List α} {i : Nat} {x : α} {b : β} (h : l[i]? = some x) : (l.take (i + 1)).foldl f b = f ((l.take i).foldl f b) x := by
  rw [List.take_add_one, h, List.foldl_append]
  rfl
abbrev rwsD (C : Addr) (rs : List Rw) : D := .tup (rs.map (rwD C))
abbrev fsD (fs : List Fl) : D := .tup (fs.map flD)
section
variable {P : Program} {w : World} {K : PySem.W.Frag} {mg : Str → Option Value} {base : Heap} {C : Addr}
def sdMatched (C : Addr) : SpD := fun as Q _ => ∃ (rs : List Rw) (p : Od), as = [.d (rwsD C rs), .d (odD C p)] ∧ rs.length ≤ 1000 ∧ Q (.d (.tup [fsD (mat rs p).fs, .dK (mat rs p).tk])) []
abbrev s_matched : Stmt := top 21
theorem sc_matched : FnScope ["rows", "placed", "left", "fills", "taken", "number", "resting", "count", "held", "order"] ["rows", "placed"] (defScope s_matched) := ⟨rfl, rfl, rfl, by decide +kernel, rfl, by decide +kernel, by decide +kernel⟩
theorem ok_matched (D_meets : DefD P w K mg base "meets" 3 ["one", "other"] (sdMeets C)) (D_rank : DefD P w K mg base "_rank" 3 ["row"] (sdRank C)) (D_fill : DefD P w K mg base "_fill" 3 ["placed", "resting", "count"] (sdFill C)) {f : Addr} {fd : FuncData} (G : Fun K "_matched" "_matched" s_matched f fd) (T : TxtO K mg C) : FnOk P w K mg base (L2.CX P w) 7 f fd ["rows", "placed"] (spOf K (sdMatched C)) := by
  refine okD G sc_matched [] (fun as Q E ⟨o, p, e, _⟩ => by subst e; exact ⟨rfl, rfl⟩) ⟨_, fun cdv A outer s H E ad F0 H0 hr => (pds_cons (psd_set (i := 2) (pd_fld (pd_var (pv 1)) T.cl_Order (T.na_Order _ (by decide)) rfl) (by show ¬ (2 ∈ ([] : List Nat)); decide) sc_matched.nd rfl (.inl rfl))
      (pds_cons (psd_setO (i := 3) (pd_lst (fun h => pe_lst h) pda_nil) (by show ¬ (3 ∈ ([] : List Nat)); decide) sc_matched.nd rfl (.inl rfl))
      (pds_cons (psd_setO (i := 4) (pd_newDK pe_dnewK) (by show ¬ (4 ∈ ([] : List Nat)); decide) sc_matched.nd rfl (.inl rfl))
      (pds_cons (psd_for (passes_of rfl) rfl (pid_list (pd_sortK D_rank.ok (hr.mono (by decide)) (by rfl) T.b_sorted (by rfl) D_rank.mg (by decide) D_rank.b (pd_lc (own := [("held", 8), ("order", 9)]) (by rfl) sc_matched.nd (pid_tup (pd_var (pv 0))) (blkOk_by (own := [("held", 8), ("order", 9)]) (N := ["rows", "placed", "left", "fills", "taken", "number", "resting", "count", "held", "order"]) (sc := defScope s_matched) (by decide +kernel)) (fun _ _ _ _ _ => (pgd_tup (is := [8, 9]) (vs := [8, 9]) (pg_tup rfl (pgs_cons (pg_name (i := 8) sc_matched.nd rfl (.inl rfl)) (pgs_cons (pg_name (i := 9) sc_matched.nd rfl (.inl rfl)) pgs_nil))) rfl (by show ∀ i ∈ ([8, 9] : List Nat), ¬ (i ∈ ([] : List Nat)) ∧ i ∈ ([8, 9] : List Nat); decide))) (fun _ _ _ _ _ => ptsd_one (ptd_val (pd_call D_meets.ok (hr.mono (by decide)) (by rfl) D_meets.mg D_meets.kp D_meets.b takes0 (pda_cons (pd_var (pv 9)) (pda_cons (pd_var (pv 1)) pda_nil))) (fun h => pt_val h))) (fun _ _ _ _ _ => (pd_tup (fun h => pe_tup h) (pda_cons (pd_var (pv 8)) (pda_cons (pd_var (pv 9)) pda_nil)))) (by show ∀ i ∈ ([8, 9] : List Nat), ¬ (i ∈ ([] : List Nat)); decide)) (by rfl) (by rfl) (by rfl) (by rfl) (by rfl))) (pgd_tup (is := [5, 6]) (vs := [5, 6]) (pg_tup rfl (pgs_cons (pg_name (i := 5) sc_matched.nd rfl (.inl rfl)) (pgs_cons (pg_name (i := 6) sc_matched.nd rfl (.inl rfl)) pgs_nil))) rfl (by show ∀ i ∈ ([5, 6] : List Nat), ¬ (i ∈ ([] : List Nat)) ∧ i ∈ ([5, 6] : List Nat); decide))
      (pds_cons (psd_set (i := 7) (pd_builtB (fun h => pe_callB (call_min2 rfl) (by rfl) T.b_min (by decide +kernel) h) cn_two.op (pda_cons (pd_var (pv 2)) (pda_cons (pd_fld (pd_var (pv 6)) T.cl_Order (T.na_Order _ (by decide)) rfl) pda_nil))) (by show ¬ (7 ∈ ([] : List Nat)); decide) sc_matched.nd rfl (.inl rfl))
      (pds_one (psd_if (ptd_cmp op_gt (op2_I0 fun _ _ _ => .bl _) (pd_var (pv 7)) (pd_const pe_int (fun _ => .int _)) (nomark _)) (pds_cons (psd_expr (pd_methO (j := 3) (fun ho h => pe_bm PySem.F.plainAttrs_list PySem.F.slot_list_append PySem.F.type_list_append mt_append ho h) mo_append (pv 3) (pda_cons (pd_call D_fill.ok (hr.mono (by decide)) (by rfl) D_fill.mg D_fill.kp D_fill.b (takes_of rfl rfl rfl rfl) (pda_cons (pd_var (pv 1)) (pda_cons (pd_var (pv 6)) (pda_cons (pd_var (pv 7)) pda_nil)))) pda_nil)))
      (pds_cons (psd_putK (j := 4) (hu_of hr) (fun ho hi hv => ps_dput (hu_of hr) ho hi hv (by rfl)) (pv 4) (pd_var (pv 7)) (pd_var (pv 5)))
      (pds_one (psd_aug (f := fun a b => a - b) (i := 2) (fun a b H Q q => ⟨a, b, rfl, rfl, q⟩) (by show ¬ (2 ∈ ([] : List Nat)); decide) (fun h => ps_aug sc_matched.nd rfl (.inl rfl) h ip_sub) (pd_var (pv 7)))))) pds_nil))))
      (pds_one (psd_ret (pd_tup (fun h => pe_tup h) (pda_cons (pd_builtB (fun h => pe_callTy call_tuple_of (by rfl) T.b_tuple (by decide +kernel) h) cn_tuple (pda_cons (pd_fvar (i := 3) (pv 3) (by show ¬ (3 ∈ ([] : List Nat)); decide)) pda_nil)) (pda_cons (pd_fvar (i := 4) (pv 4) (by show ¬ (4 ∈ ([] : List Nat)); decide)) pda_nil))))))))), ?_⟩
  rintro as Qd Ed ⟨rs, p, rfl, hl, k⟩
  refine DR.start (δ' := [some (.d (rwsD C rs)), some (.d (odD C p)), none, none, none, none, none, none, none, none]) rfl ?_
  walk_at "dd"
  refine DR.lc_filterM (fun r => if meetB r.2 p = true then some (rwD C r) else none) (fun r acc N hr hlt kN => ?_) ?_
  · walk_at "dd"
    refine ⟨r.2, p, rfl, ?_⟩
    walk_at "dd"
    cases hm : meetB r.2 p with
    | true =>
      rw [if_pos hm] at kN
      walk_at "dd"
      exact ⟨Nat.lt_of_lt_of_le hlt (Nat.le_trans hl (by decide)), kN⟩
    | false =>
      rw [if_neg (by rw [hm]; exact Bool.false_ne_true), Option.toList_none, List.append_nil] at kN
      walk_at "dd"
      exact kN
  rw [filterMap_if]
  refine ⟨_, kyD, rfl, fun d hd => ?_, _, .inl rfl, ?_⟩
  · obtain ⟨r, _, rfl⟩ := List.mem_map.mp hd
    exact ⟨r, rfl, by rw [kyD_row]⟩
  rw [srt_map]
  have hsl : (srt rs p).length ≤ 1000 := Nat.le_trans srt_len hl
  refine DR.for_inv (fun i δ => ∃ (s : Ma) (p5 p6 p7 : Option DV), s = ((srt rs p).take i).foldl (stepM p) ⟨p.n, [], []⟩ ∧ MaOk p i s ∧ δ = [some (.d (rwsD C rs)), some (.d (odD C p)), some (.d (.int s.left)), some (.own (.lst (s.fs.map flD))), some (.own (.dK s.tk)), p5, p6, p7, none, none]) ⟨_, none, none, none, rfl, maOk0 p, rfl⟩ ?_ ?_
  · rintro i x δ N hx ⟨s, p5, p6, p7, es, ok, rfl⟩ kN
    obtain ⟨r, hr, rfl⟩ := DR.map_at hx
    have hi : i < (srt rs p).length := DR.at_lt hr
    walk_at "dd"
    have em : ∀ a b : Int, (if b < a then b else a) = min a b := fun a b => by split <;> omega
    have e2 : stepM p s r = ((srt rs p).take (i + 1)).foldl (stepM p) ⟨p.n, [], []⟩ := by rw [foldl_take hr, ← es]
    have ok2 := maOk_step ok r
    unfold stepM at e2 ok2
    rw [← em] at e2 ok2
    generalize hc : (fun i j : Int => if j < i then j else i) s.left r.2.n = c
    have hc' : (if r.2.n < s.left then r.2.n else s.left) = c := hc
    rw [hc'] at e2 ok2
    refine DR.split (fun h => ?_) (fun h => ?_)
    · rw [if_pos h] at e2 ok2
      walk_at "dd"
      refine ⟨p, r.2, c, rfl, ?_⟩
      walk_at "dd"
      refine ⟨[_], _, rfl, rfl, _, rfl, by rw [List.length_map]; exact Nat.lt_of_le_of_lt ok.lf (Nat.lt_of_lt_of_le hi (Nat.le_trans hsl (by decide))), ?_⟩
      walk_at "dd"
      refine ⟨s.tk, .inl r.1, rfl, rfl, Nat.lt_of_le_of_lt ok.lt (Nat.lt_of_lt_of_le hi (Nat.le_trans hsl (by decide))), ?_⟩
      walk_at "dd"
      refine kN _ ⟨_, some (.d (.int r.1)), some (.d (odD C r.2)), some (.d (.int c)), e2, ok2, ?_⟩
      rw [List.map_append]
      rfl
    · rw [if_neg h] at e2 ok2
      walk_at "dd"
      exact kN _ ⟨_, _, _, _, e2, ok2, rfl⟩
  · rintro δ ⟨s, p5, p6, p7, es, ok, rfl⟩
    walk_at "dd"
    rw [List.length_map, List.take_length] at es
    refine ⟨_, _, rfl, .inl rfl, ?_⟩
    walk_at "dd"
    rw [es]
    exact k
end
end KT

set_option Elab.async false
set_option linter.all false
set_option maxRecDepth 100000
set_option maxHeartbeats 0
set_option pp.deepTerms false
set_option pp.deepTerms.threshold 8


namespace KT
open PySem PySem.Spec PyProof.Rows L2 DL
/-! what is left of resting orders -/
def lessR (tk : List (Key × D)) (r : Rw) : Option Rw := match valK tk (.inl r.1) with
  | none => some r
  | some (.int c) => if c < r.2.n then some (r.1, { r.2 with n := r.2.n - c }) else none
  | some _ => none
def lessF (rs : List Rw) (tk : List (Key × D)) : List Rw := rs.filterMap (lessR tk)
theorem valK_ok {tk : List (Key × D)} (h : TkOk tk) {k : Key} {d : D} (e : valK tk k = some d) : ∃ c : Int, d = .int c ∧ 1 ≤ c := by
  unfold valK at e
  cases q : tk.find? (fun p => decide (p.1 = k)) with
  | none => rw [q] at e; cases e
  | some kv =>
    rw [q] at e
    cases e
    obtain ⟨i, c, _, e2, h2⟩ := h _ (List.mem_of_find?_eq_some q)
    exact ⟨c, e2, h2⟩
theorem fm_take {α β : Type} {f : α → Option β} {l : List α} {i : Nat} {x : α} (h : l[i]? = some x) : (l.take (i + 1)).filterMap f = (l.take i).filterMap f ++ (f x).toList := by
  rw [List.take_add_one, h, List.filterMap_append]
  cases q : f x with
  | none => rw [Option.toList_some, List.filterMap_cons_none q]; rfl
  | some y => rw [Option.toList_some, List.filterMap_cons_some q]; rfl
theorem less_ok {rs : List Rw} {tk : List (Key × D)} (h : TkOk tk) (hr : ∀ r ∈ rs, OdOk r.2) : ∀ r ∈ lessF rs tk, OdOk r.2 := fun r hm => by
  obtain ⟨a, ha, e⟩ := List.mem_filterMap.mp hm
  unfold lessR at e
  split at e
  · cases e; exact hr _ ha
  · rename_i c q
    split at e
    · rename_i h2
      cases e
      obtain ⟨c', e', hc⟩ := valK_ok h q
      cases e'
      obtain ⟨o1, o2, o3, o4, o5, o6⟩ := hr _ ha
      exact ⟨o1, o2, show 1 ≤ a.2.n - c by omega, show a.2.n - c ≤ 1000000 by omega, o5, o6⟩
    · cases e
  · cases e
theorem less_len {rs : List Rw} {tk : List (Key × D)} : (lessF rs tk).length ≤ rs.length := List.length_filterMap_le ..
theorem less_keys {rs : List Rw} {tk : List (Key × D)} : ((lessF rs tk).map (·.1)).Sublist (rs.map (·.1)) := by
  unfold lessF
  induction rs with
  | nil => exact .slnil
  | cons r rs ih =>
    cases q : lessR tk r with
    | none => rw [List.filterMap_cons_none q, List.map_cons]; exact .cons _ ih
    | some y =>
      rw [List.filterMap_cons_some q, List.map_cons, List.map_cons]
      have e : y.1 = r.1 := by
        unfold lessR at q
        split at q
        · cases q; rfl
        · split at q
          · cases q; rfl
          · cases q
        · cases q
      rw [e]
      exact .cons₂ _ ih
section
variable {P : Program} {w : World} {K : PySem.W.Frag} {mg : Str → Option Value} {base : Heap} {C : Addr}
abbrev MOf (P : Program) (w : World) (K : PySem.W.Frag) (mg : Str → Option Value) (base : Heap) (C : Addr) := DefM P w K mg base C "of_count" 7 ["self", "count"] (sdOfCount C)
def sdLess (C : Addr) : SpD := fun as Q _ => ∃ (rs : List Rw) (tk : List (Key × D)), as = [.d (rwsD C rs), .d (.dK tk)] ∧ (∀ r ∈ rs, OdOk r.2) ∧ TkOk tk ∧ rs.length ≤ 1000 ∧ Q (.d (rwsD C (lessF rs tk))) []
abbrev s_less : Stmt := top 22
theorem sc_less : FnScope ["rows", "taken", "kept", "number", "order"] ["rows", "taken"] (defScope s_less) := ⟨rfl, rfl, rfl, by decide +kernel, rfl, by decide +kernel, by decide +kernel⟩
theorem ok_less (D_Order_of_count : MOf P w K mg base C) {f : Addr} {fd : FuncData} (G : Fun K "_less" "_less" s_less f fd) (T : TxtO K mg C) : FnOk P w K mg base (L2.CX P w) 9 f fd ["rows", "taken"] (spOf K (sdLess C)) := by
  refine okD G sc_less [] (fun as Q E ⟨o, p, e, _⟩ => by subst e; exact ⟨rfl, rfl⟩) ⟨_, fun cdv A outer s H E ad F0 H0 hr => (pds_cons (psd_setO (i := 2) (pd_lst (fun h => pe_lst h) pda_nil) (by show ¬ (2 ∈ ([] : List Nat)); decide) sc_less.nd rfl (.inl rfl))
      (pds_cons (psd_for (passes_of rfl) rfl (pid_tup (pd_var (pv 0))) (pgd_tup (is := [3, 4]) (vs := [3, 4]) (pg_tup rfl (pgs_cons (pg_name (i := 3) sc_less.nd rfl (.inl rfl)) (pgs_cons (pg_name (i := 4) sc_less.nd rfl (.inl rfl)) pgs_nil))) rfl (by show ∀ i ∈ ([3, 4] : List Nat), ¬ (i ∈ ([] : List Nat)) ∧ i ∈ ([3, 4] : List Nat); decide))
      (pds_one (psd_if (ptd_inKF_f (fun hi ho => pt_cmp (pc_dnotin (hu_of hr) hi ho)) (pd_var (pv 3)) (pd_var (pv 1))) (pds_one (psd_expr (pd_methO (j := 2) (fun ho h => pe_bm PySem.F.plainAttrs_list PySem.F.slot_list_append PySem.F.type_list_append mt_append ho h) mo_append (pv 2) (pda_cons (pd_tup (fun h => pe_tup h) (pda_cons (pd_var (pv 3)) (pda_cons (pd_var (pv 4)) pda_nil))) pda_nil)))) (pds_one (psd_if (ptd_cmp op_lt (op2_I0 fun _ _ _ => .bl _) (pd_getK (fun ho hi => pe_dget (hu_of hr) ho hi (fun _ _ => rfl)) (pd_var (pv 1)) (pd_var (pv 3))) (pd_fld (pd_var (pv 4)) T.cl_Order (T.na_Order _ (by decide)) rfl) (nomark _)) (pds_one (psd_expr (pd_methO (j := 2) (fun ho h => pe_bm PySem.F.plainAttrs_list PySem.F.slot_list_append PySem.F.type_list_append mt_append ho h) mo_append (pv 2) (pda_cons (pd_tup (fun h => pe_tup h) (pda_cons (pd_var (pv 3)) (pda_cons (pd_meth (pd_var (pv 4)) T.cl_Order D_Order_of_count.me D_Order_of_count.ok (hr.mono (by decide)) D_Order_of_count.b (takes_of rfl rfl rfl rfl) (pda_cons (pd_op op_sub (op2_I0 fun _ _ _ => .int _) (pd_fld (pd_var (pv 4)) T.cl_Order (T.na_Order _ (by decide)) rfl) (pd_getK (fun ho hi => pe_dget (hu_of hr) ho hi (fun _ _ => rfl)) (pd_var (pv 1)) (pd_var (pv 3)))) pda_nil)) pda_nil))) pda_nil)))) pds_nil)))))
      (pds_one (psd_ret (pd_builtB (fun h => pe_callTy call_tuple_of (by rfl) T.b_tuple (by decide +kernel) h) cn_tuple (pda_cons (pd_fvar (i := 2) (pv 2) (by show ¬ (2 ∈ ([] : List Nat)); decide)) pda_nil)))))), ?_⟩
  rintro as Qd Ed ⟨rs, tk, rfl, hr, ht, hl, k⟩
  refine DR.start (δ' := [some (.d (rwsD C rs)), some (.d (.dK tk)), none, none, none]) rfl ?_
  walk_at "dd"
  refine DR.for_inv (fun i δ => ∃ (p3 p4 : Option DV), δ = [some (.d (rwsD C rs)), some (.d (.dK tk)), some (.own (.lst (((rs.take i).filterMap (lessR tk)).map (rwD C)))), p3, p4]) ⟨none, none, rfl⟩ ?_ ?_
  · rintro i x δ N hx ⟨p3, p4, rfl⟩ kN
    obtain ⟨r, hri, rfl⟩ := DR.map_at hx
    have hi : i < rs.length := DR.at_lt hri
    have hrm := List.mem_of_getElem? hri
    have hrl : (((rs.take i).filterMap (lessR tk)).map (rwD C)).length < sizeLine := by
      rw [List.length_map]
      have h1 := List.length_filterMap_le (lessR tk) (rs.take i)
      have h2 : (rs.take i).length ≤ i := by rw [List.length_take]; omega
      exact Nat.lt_of_lt_of_le (show _ < 1001 by omega) (by decide)
    have ok2 := hr r hrm
    have kN : ∀ p3 p4, N [some (.d (rwsD C rs)), some (.d (.dK tk)), some (.own (.lst (((rs.take i).filterMap (lessR tk)).map (rwD C) ++ ((lessR tk r).toList).map (rwD C)))), p3, p4] := fun p3 p4 => kN _ ⟨p3, p4, by rw [fm_take hri, List.map_append]⟩
    walk_at "dd"
    refine ⟨tk, .inl r.1, rfl, rfl, ?_⟩
    unfold lessR at kN
    cases q : valK tk (.inl r.1) with
    | none =>
      rw [q] at kN
      rw [show (true != (none : Option D).isSome) = true from rfl]
      walk_at "dd"
      refine ⟨[_], _, rfl, rfl, _, rfl, hrl, ?_⟩
      walk_at "dd"
      exact kN _ _
    | some d =>
      obtain ⟨c, rfl, hc⟩ := valK_ok ht q
      rw [q] at kN
      rw [show (true != (some (D.int c)).isSome) = false from rfl]
      walk_at "dd"
      refine ⟨tk, .inl r.1, .int c, rfl, rfl, q, ?_⟩
      walk_at "dd"
      obtain ⟨o1, o2, o3, o4, o5, o6⟩ := ok2
      by_cases h2 : c < r.2.n
      · dsimp only at kN
        rw [if_pos h2] at kN
        rw [decide_eq_true h2]
        walk_at "dd"
        refine ⟨tk, .inl r.1, .int c, rfl, rfl, q, ?_⟩
        walk_at "dd"
        refine ⟨r.2, r.2.n - c, rfl, ⟨o1, o2, o3, o4, o5, o6⟩, by omega, by omega, ?_⟩
        walk_at "dd"
        refine ⟨[_], _, rfl, rfl, _, rfl, hrl, ?_⟩
        walk_at "dd"
        exact kN _ _
      · dsimp only at kN
        rw [if_neg h2, Option.toList_none, List.map_nil, List.append_nil] at kN
        rw [decide_eq_false h2]
        walk_at "dd"
        exact kN _ _
  · rintro δ ⟨p3, p4, rfl⟩
    rw [List.length_map, List.take_length]
    walk_at "dd"
    refine ⟨_, _, rfl, .inl rfl, ?_⟩
    walk_at "dd"
    exact k
end
end KT

set_option Elab.async false
set_option linter.all false
set_option maxRecDepth 100000
set_option maxHeartbeats 0
set_option pp.deepTerms false
set_option pp.deepTerms.threshold 8


namespace KT
open PySem PySem.Spec PyProof.Rows L2 DL
/-! the book -/
abbrev bkF (C : Addr) (rs : List Rw) (n : Nat) : List (Str × D) := [("_rows", rwsD C rs), ("_next", .int (n : Int))]
structure BkOk (rs : List Rw) (n : Nat) : Prop where
  ok : ∀ r ∈ rs, OdOk r.2
  lo : ∀ r ∈ rs, 0 ≤ r.1 ∧ r.1 < n
  nd : (rs.map (·.1)).Nodup
  ln : rs.length ≤ n
def sumC (fs : List Fl) : Int := (fs.map (·.c)).sum
def leftF (rs : List Rw) (o : Od) : Int := o.n - sumC (mat rs o).fs
def placeR (rs : List Rw) (n : Nat) (o : Od) : List Rw := if 0 < leftF rs o then lessF rs (mat rs o).tk ++ [((n : Int), { o with n := leftF rs o })] else lessF rs (mat rs o).tk
theorem left_le (rs : List Rw) (o : Od) : leftF rs o ≤ o.n := by
  have := sum_nn (mat_ok rs o).fc
  unfold leftF sumC
  omega
theorem place_ok {rs : List Rw} {n : Nat} {o : Od} (h : BkOk rs n) (ho : OdOk o) : BkOk (placeR rs n o) (n + 1) := by
  have hm := mat_ok rs o
  have h1 := less_ok hm.tk h.ok
  have hk := less_keys (rs := rs) (tk := (mat rs o).tk)
  have h2 : ∀ r ∈ lessF rs (mat rs o).tk, 0 ≤ r.1 ∧ r.1 < n := fun r hr => by
    have : r.1 ∈ rs.map (·.1) := hk.subset (List.mem_map.mpr ⟨r, hr, rfl⟩)
    obtain ⟨a, ha, e⟩ := List.mem_map.mp this
    rw [← e]
    exact h.lo a ha
  have h3 := h.nd.sublist hk
  have h4 : (lessF rs (mat rs o).tk).length ≤ n := Nat.le_trans less_len h.ln
  unfold placeR
  split
  · rename_i hl
    have hle := left_le rs o
    refine ⟨fun r hr => ?_, fun r hr => ?_, ?_, ?_⟩
    · rcases List.mem_append.mp hr with hr | hr
      · exact h1 r hr
      · rw [List.mem_singleton.mp hr]
        exact ⟨ho.1, ho.2.1, show 1 ≤ leftF rs o by omega, show leftF rs o ≤ 1000000 by have := ho.2.2.2.1; omega, ho.2.2.2.2⟩
    · rcases List.mem_append.mp hr with hr | hr
      · have := h2 r hr; omega
      · rw [List.mem_singleton.mp hr]
        show 0 ≤ (n : Int) ∧ (n : Int) < ((n + 1 : Nat) : Int)
        omega
    · rw [List.map_append, List.map_cons, List.map_nil]
      refine List.nodup_append.mpr ⟨h3, List.nodup_cons.mpr ⟨(fun z => nomatch z), .nil⟩, fun a ha b hb e => ?_⟩
      rw [List.mem_singleton.mp hb] at e
      obtain ⟨r, hr, er⟩ := List.mem_map.mp ha
      have := (h2 r hr).2
      rw [er, e] at this
      exact absurd this (Int.lt_irrefl _)
    · rw [List.length_append]
      exact Nat.succ_le_succ h4
  · exact ⟨h1, fun r hr => by have := h2 r hr; omega, h3, Nat.le_succ_of_le h4⟩
theorem filter_ok {rs : List Rw} {n : Nat} (c : Rw → Bool) (h : BkOk rs n) : BkOk (rs.filter c) n :=
  ⟨fun r hr => h.ok r (List.mem_filter.mp hr).1, fun r hr => h.lo r (List.mem_filter.mp hr).1, h.nd.sublist (List.filter_sublist.map _), Nat.le_trans (List.length_filter_le ..) h.ln⟩
structure TxtBk (K : PySem.W.Frag) (mg : Str → Option Value) (C OB : Addr) : Prop extends TxtO K mg C where
  c_OrderBook : mg "OrderBook" = some (.ref OB)
  cl_OrderBook : Cls K OB
  na_OrderBook : ∀ n : Str, (["_rows", "_next"] : List Str).contains n = true → NoAttr K OB n
section
variable {P : Program} {w : World} {K : PySem.W.Frag} {mg : Str → Option Value} {base : Heap} {C OB NO : Addr}
def sdBInit (C OB : Addr) : SpD := fun as Q _ => as = [.own (.ins OB [])] ∧ Q (.d .non) [.ins OB (bkF C [] 0)]
abbrev s_OrderBook___init : Stmt := inClass (top 23) 0
theorem sc_OrderBook___init : FnScope ["self"] ["self"] (defScope s_OrderBook___init) := ⟨rfl, rfl, rfl, by decide +kernel, rfl, by decide +kernel, by decide +kernel⟩
theorem ok_binit {f : Addr} {fd : FuncData} (G : Fun K "__init__" "OrderBook.__init__" s_OrderBook___init f fd) (T : TxtBk K mg C OB) : FnOk P w K mg base (L2.CX P w) 1 f fd ["self"] (spOf K (sdBInit C OB)) := by
  refine okD G sc_OrderBook___init [0] (fun as Q E ⟨e, _⟩ => by subst e; exact ⟨rfl, rfl⟩) ⟨_, fun cdv A outer s H E ad F0 H0 hr => (pds_cons (psd_fld (i := 0) (pv 0) (pd_tup (fun h => pe_tup h) pda_nil) T.cl_OrderBook (T.na_OrderBook _ (by decide)) rfl)
      (pds_one (psd_fld (i := 0) (pv 0) (pd_const pe_int (fun _ => .int _)) T.cl_OrderBook (T.na_OrderBook _ (by decide)) rfl))), ?_⟩
  rintro as Qd Ed ⟨rfl, k⟩
  refine DR.start (δ' := [some (.own (.ins OB []))]) rfl ?_
  walk_at "dd"
  exact k
def sdPlace (C OB : Addr) : SpD := fun as Q _ => ∃ (rs : List Rw) (n : Nat) (o : Od), as = [.own (.ins OB (bkF C rs n)), .d (odD C o)] ∧ BkOk rs n ∧ n ≤ 500 ∧ OdOk o ∧ Q (.d (.tup [.int (n : Int), fsD (mat rs o).fs])) [.ins OB (bkF C (placeR rs n o) (n + 1))]
abbrev s_OrderBook_place : Stmt := inClass (top 23) 1
theorem sc_OrderBook_place : FnScope ["self", "order", "number", "fills", "taken", "rows", "left", "_", "count"] ["self", "order"] (defScope s_OrderBook_place) := ⟨rfl, rfl, rfl, by decide +kernel, rfl, by decide +kernel, by decide +kernel⟩
theorem ok_place (D_matched : DefD P w K mg base "_matched" 7 ["rows", "placed"] (sdMatched C)) (D_less : DefD P w K mg base "_less" 9 ["rows", "taken"] (sdLess C)) (D_Order_of_count : MOf P w K mg base C) {f : Addr} {fd : FuncData} (G : Fun K "place" "OrderBook.place" s_OrderBook_place f fd) (T : TxtBk K mg C OB) : FnOk P w K mg base (L2.CX P w) 11 f fd ["self", "order"] (spOf K (sdPlace C OB)) := by
  refine okD G sc_OrderBook_place [0] (fun as Q E ⟨rs, n, o, e, _⟩ => by subst e; exact ⟨rfl, rfl⟩) ⟨_, fun cdv A outer s H E ad F0 H0 hr => (pds_cons (psd_set (i := 2) (pd_fldO (i := 0) (pv 0) T.cl_OrderBook (T.na_OrderBook _ (by decide)) rfl) (by show ¬ (2 ∈ ([0] : List Nat)); decide) sc_OrderBook_place.nd rfl (.inl rfl))
      (pds_cons (psd_unpack (pd_call D_matched.ok (hr.mono (by decide)) (by rfl) D_matched.mg D_matched.kp D_matched.b (takes_of rfl rfl rfl rfl) (pda_cons (pd_fldO (i := 0) (pv 0) T.cl_OrderBook (T.na_OrderBook _ (by decide)) rfl) (pda_cons (pd_var (pv 1)) pda_nil))) (pgd_tup (is := [3, 4]) (vs := [3, 4]) (pg_tup rfl (pgs_cons (pg_name (i := 3) sc_OrderBook_place.nd rfl (.inl rfl)) (pgs_cons (pg_name (i := 4) sc_OrderBook_place.nd rfl (.inl rfl)) pgs_nil))) rfl (by show ∀ i ∈ ([3, 4] : List Nat), ¬ (i ∈ ([0] : List Nat)) ∧ i ∈ ([3, 4] : List Nat); decide)) (fun h g => ps_asg h g))
      (pds_cons (psd_set (i := 5) (pd_call D_less.ok (hr.mono (by decide)) (by rfl) D_less.mg D_less.kp D_less.b (takes_of rfl rfl rfl rfl) (pda_cons (pd_fldO (i := 0) (pv 0) T.cl_OrderBook (T.na_OrderBook _ (by decide)) rfl) (pda_cons (pd_var (pv 4)) pda_nil))) (by show ¬ (5 ∈ ([0] : List Nat)); decide) sc_OrderBook_place.nd rfl (.inl rfl))
      (pds_cons (psd_set (i := 6) (pd_op op_sub (op2_I0 fun _ _ _ => .int _) (pd_fld (pd_var (pv 1)) T.cl_Order (T.na_Order _ (by decide)) rfl) (pd_builtB (fun h => pe_callB (cr_sum rfl) (by rfl) T.b_sum (by decide +kernel) h) cn_sum.op (pda_cons (pd_lc (own := [("_", 7), ("count", 8)]) (by rfl) sc_OrderBook_place.nd (pid_tup (pd_var (pv 3))) (blkOk_by (own := [("_", 7), ("count", 8)]) (N := ["self", "order", "number", "fills", "taken", "rows", "left", "_", "count"]) (sc := defScope s_OrderBook_place) (by decide +kernel)) (fun _ _ _ _ _ => (pgd_tup (is := [7, 7, 7, 8, 7]) (vs := [7, 8]) (pg_tup rfl (pgs_cons (pg_name (i := 7) sc_OrderBook_place.nd rfl (.inl rfl)) (pgs_cons (pg_name (i := 7) sc_OrderBook_place.nd rfl (.inl rfl)) (pgs_cons (pg_name (i := 7) sc_OrderBook_place.nd rfl (.inl rfl)) (pgs_cons (pg_name (i := 8) sc_OrderBook_place.nd rfl (.inl rfl)) (pgs_cons (pg_name (i := 7) sc_OrderBook_place.nd rfl (.inl rfl)) pgs_nil)))))) rfl (by show ∀ i ∈ ([7, 7, 7, 8, 7] : List Nat), ¬ (i ∈ ([0] : List Nat)) ∧ i ∈ ([7, 8] : List Nat); decide))) (fun _ _ _ _ _ => ptsd_nil) (fun _ _ _ _ _ => (pd_var (pv 8))) (by show ∀ i ∈ ([7, 8] : List Nat), ¬ (i ∈ ([0] : List Nat)); decide)) pda_nil))) (by show ¬ (6 ∈ ([0] : List Nat)); decide) sc_OrderBook_place.nd rfl (.inl rfl))
      (pds_cons (psd_if (ptd_cmp op_gt (op2_I0 fun _ _ _ => .bl _) (pd_var (pv 6)) (pd_const pe_int (fun _ => .int _)) (nomark _)) (pds_one (psd_set (i := 5) (pd_op op_catA op2_catT (pd_var (pv 5)) (pd_tup (fun h => pe_tup h) (pda_cons (pd_tup (fun h => pe_tup h) (pda_cons (pd_var (pv 2)) (pda_cons (pd_meth (pd_var (pv 1)) T.cl_Order D_Order_of_count.me D_Order_of_count.ok (hr.mono (by decide)) D_Order_of_count.b (takes_of rfl rfl rfl rfl) (pda_cons (pd_var (pv 6)) pda_nil)) pda_nil))) pda_nil))) (by show ¬ (5 ∈ ([0] : List Nat)); decide) sc_OrderBook_place.nd rfl (.inl rfl))) pds_nil)
      (pds_cons (psd_fld (i := 0) (pv 0) (pd_var (pv 5)) T.cl_OrderBook (T.na_OrderBook _ (by decide)) rfl)
      (pds_cons (psd_fld (i := 0) (pv 0) (pd_op op_add (op2_I0 fun _ _ _ => .int _) (pd_var (pv 2)) (pd_const pe_int (fun _ => .int _))) T.cl_OrderBook (T.na_OrderBook _ (by decide)) rfl)
      (pds_one (psd_ret (pd_tup (fun h => pe_tup h) (pda_cons (pd_var (pv 2)) (pda_cons (pd_var (pv 3)) pda_nil)))))))))))), ?_⟩
  rintro as Qd Ed ⟨rs, n, o, rfl, hb, hn, ho, k⟩
  have hl : rs.length ≤ 1000 := Nat.le_trans hb.ln (by omega)
  have hm := mat_ok rs o
  refine DR.start (δ' := [some (.own (.ins OB (bkF C rs n))), some (.d (odD C o)), none, none, none, none, none, none, none]) rfl ?_
  walk_at "dd"
  refine ⟨rs, o, rfl, hl, ?_⟩
  walk_at "dd"
  refine ⟨rs, (mat rs o).tk, rfl, hb.ok, hm.tk, hl, ?_⟩
  walk_at "dd"
  refine DR.lc_mapM (l := (mat rs o).fs) (r := flD) (fun f => D.int f.c) (fun f acc N hf hl3 kN => ?_) ?_
  · walk_at "dd"
    exact ⟨Nat.lt_of_lt_of_le hl3 (Nat.le_trans hm.lf (Nat.le_trans hl (by decide))), kN⟩
  walk_at "dd"
  refine ⟨(mat rs o).fs.map (·.c), .inl (by rw [List.map_map]; rfl), ?_⟩
  walk_at "dd"
  have hle := left_le rs o
  have k := k
  unfold placeR at k
  refine DR.split (fun c => ?_) (fun c => ?_)
  · rw [if_pos (show 0 < leftF rs o from c)] at k
    walk_at "dd"
    refine ⟨o, leftF rs o, rfl, ho, show 1 ≤ leftF rs o from c, Int.le_trans hle ho.2.2.2.1, ?_⟩
    walk_at "dd"
    refine ⟨by rw [List.length_map]; exact Nat.le_trans (Nat.succ_le_succ less_len) (Nat.le_trans (show rs.length + 1 ≤ 1001 by omega) (by decide)), ?_⟩
    walk_at "dd"
    have k : Qd (.d (.tup [.int (n : Int), fsD (mat rs o).fs])) [.ins OB [("_rows", .tup ((lessF rs (mat rs o).tk ++ [((n : Int), { o with n := leftF rs o })]).map (rwD C))), ("_next", .int ((n + 1 : Nat) : Int))]] := k
    rw [List.map_append] at k
    exact k
  · rw [if_neg (show ¬ 0 < leftF rs o from c)] at k
    walk_at "dd"
    exact k
/-- the row with a number -/
def findR (rs : List Rw) : D → Option Rw
  | .int i => rs.find? fun r => decide (r.1 = i)
  | _ => none
abbrev exNo (NO : Addr) (x : D) : Ex := ⟨NO, some [("number", x)]⟩
def sdOrder (C OB NO : Addr) : SpD := fun as Q E => ∃ (rs : List Rw) (n : Nat) (x : D) (t : String), as = [.own (.ins OB (bkF C rs n)), .d x] ∧ Pl x t ∧ (∀ r, findR rs x = some r → Q (.d (odD C r.2)) [.ins OB (bkF C rs n)]) ∧ (findR rs x = none → E (exNo NO x) [.ins OB (bkF C rs n)])
abbrev s_OrderBook_order : Stmt := inClass (top 23) 3
theorem sc_OrderBook_order : FnScope ["self", "number", "held", "order"] ["self", "number"] (defScope s_OrderBook_order) := ⟨rfl, rfl, rfl, by decide +kernel, rfl, by decide +kernel, by decide +kernel⟩
theorem ok_order (X_NoOrder : DefX P w K mg base "NoOrder" NO ["number"]) (D_is_integer : DefD P w K mg base "is_integer" 1 ["thing"] sdIntX) {f : Addr} {fd : FuncData} (G : Fun K "order" "OrderBook.order" s_OrderBook_order f fd) (T : TxtBk K mg C OB) : FnOk P w K mg base (L2.CX P w) 3 f fd ["self", "number"] (spOf K (sdOrder C OB NO)) := by
  refine okD G sc_OrderBook_order [0] (fun as Q E ⟨rs, n, x, t, e, _⟩ => by subst e; exact ⟨rfl, rfl⟩) ⟨_, fun cdv A outer s H E ad F0 H0 hr => (pds_cons (psd_if (ptd_val (pd_call D_is_integer.ok (hr.mono (by decide)) (by rfl) D_is_integer.mg D_is_integer.kp D_is_integer.b (takes_of rfl rfl rfl rfl) (pda_cons (pd_var (pv 1)) pda_nil)) (fun h => pt_val h)) (pds_one (psd_for (passes_of rfl) rfl (pid_tup (pd_fldO (i := 0) (pv 0) T.cl_OrderBook (T.na_OrderBook _ (by decide)) rfl)) (pgd_tup (is := [2, 3]) (vs := [2, 3]) (pg_tup rfl (pgs_cons (pg_name (i := 2) sc_OrderBook_order.nd rfl (.inl rfl)) (pgs_cons (pg_name (i := 3) sc_OrderBook_order.nd rfl (.inl rfl)) pgs_nil))) rfl (by show ∀ i ∈ ([2, 3] : List Nat), ¬ (i ∈ ([0] : List Nat)) ∧ i ∈ ([2, 3] : List Nat); decide))
      (pds_one (psd_if (ptd_cmp op_eq op2_eq.op (pd_var (pv 2)) (pd_var (pv 1)) (nomark _)) (pds_one (psd_ret (pd_var (pv 3)))) pds_nil)))) pds_nil)
      (pds_one (psd_raiseR rfl (takes_of rfl rfl rfl rfl) (fun h => pmk_oex X_NoOrder.ox X_NoOrder.ini X_NoOrder.ty X_NoOrder.ok (hr.mono (by decide)) X_NoOrder.b .nil pass0 (by rfl) X_NoOrder.mg h) (pda_cons (pd_var (pv 1)) pda_nil)))), ?_⟩
  rintro as Qd Ed ⟨rs, n, x, t, rfl, hx, k1, k2⟩
  refine DR.start (δ' := [some (.own (.ins OB (bkF C rs n))), some (.d x), none, none]) rfl ?_
  walk_at "dd"
  refine ⟨x, t, rfl, hx, ?_⟩
  have no : findR rs x = none → ∀ p2 p3, raiseR NO ["number"] (consD (varD 1) nilD) (endsD [0] Qd Ed) [some (.own (.ins OB (bkF C rs n))), some (.d x), p2, p3] := fun h p2 p3 => by
    walk_at "dd"
    refine ⟨rfl, by show 1 ≤ 1000; decide, ?_⟩
    walk_at "dd"
    exact k2 h
  cases hx with
  | int i =>
    rw [show isI (.int i) = true from rfl]
    walk_at "dd"
    refine DR.for_inv (fun j δ => ∃ p2 p3, (rs.take j).find? (fun r => decide (r.1 = i)) = none ∧ δ = [some (.own (.ins OB (bkF C rs n))), some (.d (.int i)), p2, p3]) ⟨none, none, rfl, rfl⟩ ?_ ?_
    · rintro j x δ N hx ⟨p2, p3, hf, rfl⟩ kN
      obtain ⟨r, hri, rfl⟩ := DR.map_at hx
      have hjl : j < rs.length := DR.at_lt hri
      have ht : rs.take (j + 1) = rs.take j ++ [r] := by rw [List.take_add_one, hri]; rfl
      walk_at "dd"
      refine DR.split (fun c => ?_) (fun c => ?_)
      · walk_at "dd"
        refine k1 r ?_
        show rs.find? _ = _
        rw [← List.take_append_drop (j + 1) rs, List.find?_append, ht, List.find?_append, hf, Option.none_or, List.find?_cons_of_pos (p := fun r : Rw => decide (r.1 = i)) (decide_eq_true c)]
        rfl
      · walk_at "dd"
        refine kN _ ⟨_, _, ?_, rfl⟩
        rw [ht, List.find?_append, hf, Option.none_or, List.find?_cons_of_neg (p := fun r : Rw => decide (r.1 = i)) (by rw [decide_eq_false c]; exact Bool.false_ne_true)]
        rfl
    · rintro δ ⟨p2, p3, hf, rfl⟩
      rw [List.length_map, List.take_length] at hf
      exact no hf p2 p3
  | _ =>
    walk_at "dd"
    exact no rfl _ _
end
end KT

set_option Elab.async false
set_option linter.all false
set_option maxRecDepth 100000
set_option maxHeartbeats 0
set_option pp.deepTerms false
set_option pp.deepTerms.threshold 8


namespace KT
open PySem PySem.Spec PyProof.Rows L2 DL
section
variable {P : Program} {w : World} {K : PySem.W.Frag} {mg : Str → Option Value} {base : Heap} {C OB NO : Addr}
def intOf : D → Int
  | .int i => i
  | _ => 0
def sdCancel (C OB NO : Addr) : SpD := fun as Q E => ∃ (rs : List Rw) (n : Nat) (x : D) (t : String), as = [.own (.ins OB (bkF C rs n)), .d x] ∧ Pl x t ∧ rs.length ≤ 1000 ∧ (∀ r, findR rs x = some r → Q (.d (odD C r.2)) [.ins OB (bkF C (rs.filter fun r => !decide (r.1 = intOf x)) n)]) ∧ (findR rs x = none → E (exNo NO x) [.ins OB (bkF C rs n)])
abbrev s_OrderBook_cancel : Stmt := inClass (top 23) 4
theorem sc_OrderBook_cancel : FnScope ["self", "number", "order", "held", "kept"] ["self", "number"] (defScope s_OrderBook_cancel) := ⟨rfl, rfl, rfl, by decide +kernel, rfl, by decide +kernel, by decide +kernel⟩
theorem ok_cancel (D_OrderBook_order : DefM P w K mg base OB "order" 3 ["self", "number"] (sdOrder C OB NO)) {f : Addr} {fd : FuncData} (G : Fun K "cancel" "OrderBook.cancel" s_OrderBook_cancel f fd) (T : TxtBk K mg C OB) : FnOk P w K mg base (L2.CX P w) 5 f fd ["self", "number"] (spOf K (sdCancel C OB NO)) := by
  refine okD G sc_OrderBook_cancel [0] (fun as Q E ⟨rs, n, x, t, e, _⟩ => by subst e; exact ⟨rfl, rfl⟩) ⟨_, fun cdv A outer s H E ad F0 H0 hr => (pds_cons (psd_set (i := 2) (pd_methOS (j := 0) (pv 0) T.cl_OrderBook D_OrderBook_order.me D_OrderBook_order.ok (hr.mono (by decide)) D_OrderBook_order.b (takes_of rfl rfl rfl rfl) (pda_cons (pd_var (pv 1)) pda_nil)) (by show ¬ (2 ∈ ([0] : List Nat)); decide) sc_OrderBook_cancel.nd rfl (.inl rfl))
      (pds_cons (psd_fld (i := 0) (pv 0) (pd_builtB (fun h => pe_callTy call_tuple_of (by rfl) T.b_tuple (by decide +kernel) h) cn_tuple (pda_cons (pd_lc (own := [("held", 3), ("kept", 4)]) (by rfl) sc_OrderBook_cancel.nd (pid_tup (pd_fldO (i := 0) (pv 0) T.cl_OrderBook (T.na_OrderBook _ (by decide)) rfl)) (blkOk_by (own := [("held", 3), ("kept", 4)]) (N := ["self", "number", "order", "held", "kept"]) (sc := defScope s_OrderBook_cancel) (by decide +kernel)) (fun _ _ _ _ _ => (pgd_tup (is := [3, 4]) (vs := [3, 4]) (pg_tup rfl (pgs_cons (pg_name (i := 3) sc_OrderBook_cancel.nd rfl (.inl rfl)) (pgs_cons (pg_name (i := 4) sc_OrderBook_cancel.nd rfl (.inl rfl)) pgs_nil))) rfl (by show ∀ i ∈ ([3, 4] : List Nat), ¬ (i ∈ ([0] : List Nat)) ∧ i ∈ ([3, 4] : List Nat); decide))) (fun _ _ _ _ _ => ptsd_one (ptd_cmp op_ne op2_ne.op (pd_var (pv 3)) (pd_var (pv 1)) (nomark _))) (fun _ _ _ _ _ => (pd_tup (fun h => pe_tup h) (pda_cons (pd_var (pv 3)) (pda_cons (pd_var (pv 4)) pda_nil)))) (by show ∀ i ∈ ([3, 4] : List Nat), ¬ (i ∈ ([0] : List Nat)); decide)) pda_nil)) T.cl_OrderBook (T.na_OrderBook _ (by decide)) rfl)
      (pds_one (psd_ret (pd_var (pv 2)))))), ?_⟩
  rintro as Qd Ed ⟨rs, n, x, t, rfl, hx, hl, k1, k2⟩
  refine DR.start (δ' := [some (.own (.ins OB (bkF C rs n))), some (.d x), none, none, none]) rfl ?_
  walk_at "dd"
  refine ⟨rs, n, x, t, rfl, hx, fun r hr => ?_, fun h => ?_⟩
  · cases hx with
    | int i =>
      walk_at "dd"
      refine DR.lc_filterM (fun r => if (!decide (r.1 = i)) = true then some (rwD C r) else none) (fun r acc N hr hlt kN => ?_) ?_
      · walk_at "dd"
        cases hq : decide (r.1 = i) with
        | true =>
          rw [hq, if_neg (by decide), Option.toList_none, List.append_nil] at kN
          walk_at "dd"
          exact kN
        | false =>
          rw [hq, if_pos (by rfl)] at kN
          walk_at "dd"
          exact ⟨Nat.lt_of_lt_of_le hlt (Nat.le_trans hl (by decide)), kN⟩
      rw [filterMap_if (c := fun r : Rw => !decide (r.1 = i))]
      walk_at "dd"
      refine ⟨_, _, rfl, .inl rfl, ?_⟩
      walk_at "dd"
      exact k1 _ hr
    | _ => cases hr
  · walk_at "dd"
    exact k2 h
def sdCancelAll (C OB : Addr) : SpD := fun as Q _ => ∃ (rs : List Rw) (n : Nat) (z : Str), as = [.own (.ins OB (bkF C rs n)), .d (.str z)] ∧ rs.length ≤ 1000 ∧ Q (.d (.tup ((rs.filter fun r => decide (r.2.m = z)).map fun r => .int r.1))) [.ins OB (bkF C (rs.filter fun r => !decide (r.2.m = z)) n)]
def sdOpenOf (C OB : Addr) : SpD := fun as Q _ => ∃ (rs : List Rw) (n : Nat) (z : Str), as = [.own (.ins OB (bkF C rs n)), .d (.str z)] ∧ rs.length ≤ 1000 ∧ Q (.d (rwsD C (rs.filter fun r => decide (r.2.m = z)))) [.ins OB (bkF C rs n)]
abbrev s_OrderBook_open_of : Stmt := inClass (top 23) 6
theorem sc_OrderBook_open_of : FnScope ["self", "member", "number", "order"] ["self", "member"] (defScope s_OrderBook_open_of) := ⟨rfl, rfl, rfl, by decide +kernel, rfl, by decide +kernel, by decide +kernel⟩
theorem ok_openof {f : Addr} {fd : FuncData} (G : Fun K "open_of" "OrderBook.open_of" s_OrderBook_open_of f fd) (T : TxtBk K mg C OB) : FnOk P w K mg base (L2.CX P w) 1 f fd ["self", "member"] (spOf K (sdOpenOf C OB)) := by
  refine okD G sc_OrderBook_open_of [0] (fun as Q E ⟨rs, n, x, e, _⟩ => by subst e; exact ⟨rfl, rfl⟩) ⟨_, fun cdv A outer s H E ad F0 H0 hr => (pds_one (psd_ret (pd_builtB (fun h => pe_callTy call_tuple_of (by rfl) T.b_tuple (by decide +kernel) h) cn_tuple (pda_cons (pd_lc (own := [("number", 2), ("order", 3)]) (by rfl) sc_OrderBook_open_of.nd (pid_tup (pd_fldO (i := 0) (pv 0) T.cl_OrderBook (T.na_OrderBook _ (by decide)) rfl)) (blkOk_by (own := [("number", 2), ("order", 3)]) (N := ["self", "member", "number", "order"]) (sc := defScope s_OrderBook_open_of) (by decide +kernel)) (fun _ _ _ _ _ => (pgd_tup (is := [2, 3]) (vs := [2, 3]) (pg_tup rfl (pgs_cons (pg_name (i := 2) sc_OrderBook_open_of.nd rfl (.inl rfl)) (pgs_cons (pg_name (i := 3) sc_OrderBook_open_of.nd rfl (.inl rfl)) pgs_nil))) rfl (by show ∀ i ∈ ([2, 3] : List Nat), ¬ (i ∈ ([0] : List Nat)) ∧ i ∈ ([2, 3] : List Nat); decide))) (fun _ _ _ _ _ => ptsd_one (ptd_cmp op_eq op2_eq.op (pd_fld (pd_var (pv 3)) T.cl_Order (T.na_Order _ (by decide)) rfl) (pd_var (pv 1)) (nomark _))) (fun _ _ _ _ _ => (pd_tup (fun h => pe_tup h) (pda_cons (pd_var (pv 2)) (pda_cons (pd_var (pv 3)) pda_nil)))) (by show ∀ i ∈ ([2, 3] : List Nat), ¬ (i ∈ ([0] : List Nat)); decide)) pda_nil)))), ?_⟩
  rintro as Qd Ed ⟨rs, n, z, rfl, hl, k⟩
  refine DR.start (δ' := [some (.own (.ins OB (bkF C rs n))), some (.d (.str z)), none, none]) rfl ?_
  walk_at "dd"
  refine DR.lc_filterM (fun r => if decide (r.2.m = z) = true then some (rwD C r) else none) (fun r acc N hr hlt kN => ?_) ?_
  · walk_at "dd"
    cases hq : decide (r.2.m = z) with
    | false =>
      rw [hq, if_neg (by decide), Option.toList_none, List.append_nil] at kN
      walk_at "dd"
      exact kN
    | true =>
      rw [hq, if_pos (by rfl)] at kN
      walk_at "dd"
      exact ⟨Nat.lt_of_lt_of_le hlt (Nat.le_trans hl (by decide)), kN⟩
  rw [filterMap_if (c := fun r : Rw => decide (r.2.m = z))]
  walk_at "dd"
  refine ⟨_, _, rfl, .inl rfl, ?_⟩
  walk_at "dd"
  exact k
abbrev s_OrderBook_cancel_all : Stmt := inClass (top 23) 5
theorem sc_OrderBook_cancel_all : FnScope ["self", "member", "numbers", "number", "_", "order"] ["self", "member"] (defScope s_OrderBook_cancel_all) := ⟨rfl, rfl, rfl, by decide +kernel, rfl, by decide +kernel, by decide +kernel⟩
theorem ok_cancelall (D_OrderBook_open_of : DefM P w K mg base OB "open_of" 1 ["self", "member"] (sdOpenOf C OB)) {f : Addr} {fd : FuncData} (G : Fun K "cancel_all" "OrderBook.cancel_all" s_OrderBook_cancel_all f fd) (T : TxtBk K mg C OB) : FnOk P w K mg base (L2.CX P w) 3 f fd ["self", "member"] (spOf K (sdCancelAll C OB)) := by
  refine okD G sc_OrderBook_cancel_all [0] (fun as Q E ⟨rs, n, x, e, _⟩ => by subst e; exact ⟨rfl, rfl⟩) ⟨_, fun cdv A outer s H E ad F0 H0 hr => (pds_cons (psd_set (i := 2) (pd_builtB (fun h => pe_callTy call_tuple_of (by rfl) T.b_tuple (by decide +kernel) h) cn_tuple (pda_cons (pd_lc (own := [("number", 3), ("_", 4)]) (by rfl) sc_OrderBook_cancel_all.nd (pid_tup (pd_methOS (j := 0) (pv 0) T.cl_OrderBook D_OrderBook_open_of.me D_OrderBook_open_of.ok (hr.mono (by decide)) D_OrderBook_open_of.b (takes_of rfl rfl rfl rfl) (pda_cons (pd_var (pv 1)) pda_nil))) (blkOk_by (own := [("number", 3), ("_", 4)]) (N := ["self", "member", "numbers", "number", "_", "order"]) (sc := defScope s_OrderBook_cancel_all) (by decide +kernel)) (fun _ _ _ _ _ => (pgd_tup (is := [3, 4]) (vs := [3, 4]) (pg_tup rfl (pgs_cons (pg_name (i := 3) sc_OrderBook_cancel_all.nd rfl (.inl rfl)) (pgs_cons (pg_name (i := 4) sc_OrderBook_cancel_all.nd rfl (.inl rfl)) pgs_nil))) rfl (by show ∀ i ∈ ([3, 4] : List Nat), ¬ (i ∈ ([0] : List Nat)) ∧ i ∈ ([3, 4] : List Nat); decide))) (fun _ _ _ _ _ => ptsd_nil) (fun _ _ _ _ _ => (pd_var (pv 3))) (by show ∀ i ∈ ([3, 4] : List Nat), ¬ (i ∈ ([0] : List Nat)); decide)) pda_nil)) (by show ¬ (2 ∈ ([0] : List Nat)); decide) sc_OrderBook_cancel_all.nd rfl (.inl rfl))
      (pds_cons (psd_fld (i := 0) (pv 0) (pd_builtB (fun h => pe_callTy call_tuple_of (by rfl) T.b_tuple (by decide +kernel) h) cn_tuple (pda_cons (pd_lc (own := [("number", 3), ("order", 5)]) (by rfl) sc_OrderBook_cancel_all.nd (pid_tup (pd_fldO (i := 0) (pv 0) T.cl_OrderBook (T.na_OrderBook _ (by decide)) rfl)) (blkOk_by (own := [("number", 3), ("order", 5)]) (N := ["self", "member", "numbers", "number", "_", "order"]) (sc := defScope s_OrderBook_cancel_all) (by decide +kernel)) (fun _ _ _ _ _ => (pgd_tup (is := [3, 5]) (vs := [3, 5]) (pg_tup rfl (pgs_cons (pg_name (i := 3) sc_OrderBook_cancel_all.nd rfl (.inl rfl)) (pgs_cons (pg_name (i := 5) sc_OrderBook_cancel_all.nd rfl (.inl rfl)) pgs_nil))) rfl (by show ∀ i ∈ ([3, 5] : List Nat), ¬ (i ∈ ([0] : List Nat)) ∧ i ∈ ([3, 5] : List Nat); decide))) (fun _ _ _ _ _ => ptsd_one (ptd_cmp op_ne op2_ne.op (pd_fld (pd_var (pv 5)) T.cl_Order (T.na_Order _ (by decide)) rfl) (pd_var (pv 1)) (nomark _))) (fun _ _ _ _ _ => (pd_tup (fun h => pe_tup h) (pda_cons (pd_var (pv 3)) (pda_cons (pd_var (pv 5)) pda_nil)))) (by show ∀ i ∈ ([3, 5] : List Nat), ¬ (i ∈ ([0] : List Nat)); decide)) pda_nil)) T.cl_OrderBook (T.na_OrderBook _ (by decide)) rfl)
      (pds_one (psd_ret (pd_var (pv 2)))))), ?_⟩
  rintro as Qd Ed ⟨rs, n, z, rfl, hl, k⟩
  refine DR.start (δ' := [some (.own (.ins OB (bkF C rs n))), some (.d (.str z)), none, none, none, none]) rfl ?_
  walk_at "dd"
  refine ⟨rs, n, z, rfl, hl, ?_⟩
  walk_at "dd"
  refine DR.lc_mapM (l := rs.filter fun r => decide (r.2.m = z)) (r := rwD C) (fun r => D.int r.1) (fun r acc N hr hlt kN => ?_) ?_
  · walk_at "dd"
    exact ⟨Nat.lt_of_lt_of_le hlt (Nat.le_trans (List.length_filter_le ..) (Nat.le_trans hl (by decide))), kN⟩
  walk_at "dd"
  refine ⟨_, _, rfl, .inl rfl, ?_⟩
  walk_at "dd"
  refine DR.lc_filterM (fun r => if (!decide (r.2.m = z)) = true then some (rwD C r) else none) (fun r acc N hr hlt kN => ?_) ?_
  · walk_at "dd"
    cases hq : decide (r.2.m = z) with
    | true =>
      rw [hq, if_neg (by decide), Option.toList_none, List.append_nil] at kN
      walk_at "dd"
      exact kN
    | false =>
      rw [hq, if_pos (by rfl)] at kN
      walk_at "dd"
      exact ⟨Nat.lt_of_lt_of_le hlt (Nat.le_trans hl (by decide)), kN⟩
  rw [filterMap_if (c := fun r : Rw => !decide (r.2.m = z))]
  walk_at "dd"
  refine ⟨_, _, rfl, .inl rfl, ?_⟩
  walk_at "dd"
  exact k
def sideR (rs : List Rw) (t : Str) (b : Bool) : List Rw := (rs.filter fun r => decide (r.2.t = t) && decide (r.2.b = b)).mergeSort (le2 kyR)
def sdSide (C OB : Addr) : SpD := fun as Q _ => ∃ (rs : List Rw) (n : Nat) (t : Str) (b : Bool), as = [.own (.ins OB (bkF C rs n)), .d (.str t), .d (.str (side b))] ∧ rs.length ≤ 1000 ∧ Q (.own (.lst ((sideR rs t b).map (rwD C)))) [.ins OB (bkF C rs n)]
abbrev s_OrderBook__side : Stmt := inClass (top 23) 10
theorem sc_OrderBook__side : FnScope ["self", "thing", "side", "rows", "number", "order"] ["self", "thing", "side"] (defScope s_OrderBook__side) := ⟨rfl, rfl, rfl, by decide +kernel, rfl, by decide +kernel, by decide +kernel⟩
theorem ok_side (D_rank : DefD P w K mg base "_rank" 3 ["row"] (sdRank C)) {f : Addr} {fd : FuncData} (G : Fun K "_side" "OrderBook._side" s_OrderBook__side f fd) (T : TxtBk K mg C OB) : FnOk P w K mg base (L2.CX P w) 7 f fd ["self", "thing", "side"] (spOf K (sdSide C OB)) := by
  refine okD G sc_OrderBook__side [0] (fun as Q E ⟨rs, n, x, b, e, _⟩ => by subst e; exact ⟨rfl, rfl⟩) ⟨_, fun cdv A outer s H E ad F0 H0 hr => (pds_cons (psd_setLc (i := 3) (o := false) (own := [("number", 4), ("order", 5)]) (by show ¬ (3 ∈ ([0] : List Nat)); decide) (by rfl) sc_OrderBook__side.nd rfl rfl (sw_true rfl rfl rfl (by decide +kernel)) (pid_tup (pd_fldO (i := 0) (pv 0) T.cl_OrderBook (T.na_OrderBook _ (by decide)) rfl)) (blkOk_by (own := [("number", 4), ("order", 5)]) (N := ["self", "thing", "side", "rows", "number", "order"]) (sc := defScope s_OrderBook__side) (by decide +kernel)) (fun _ _ _ _ _ => (pgd_tup (is := [4, 5]) (vs := [4, 5]) (pg_tup rfl (pgs_cons (pg_name (i := 4) sc_OrderBook__side.nd rfl (.inl rfl)) (pgs_cons (pg_name (i := 5) sc_OrderBook__side.nd rfl (.inl rfl)) pgs_nil))) rfl (by show ∀ i ∈ ([4, 5] : List Nat), ¬ (i ∈ ([0] : List Nat)) ∧ i ∈ ([4, 5] : List Nat); decide))) (fun _ _ _ _ _ => ptsd_one (PW.pt (pwd_and (ptd_cmp op_eq op2_eq.op (pd_fld (pd_var (pv 5)) T.cl_Order (T.na_Order _ (by decide)) rfl) (pd_var (pv 1)) (nomark _)) (pwd_and1 (ptd_cmp op_eq op2_eq.op (pd_fld (pd_var (pv 5)) T.cl_Order (T.na_Order _ (by decide)) rfl) (pd_var (pv 2)) (nomark _)))))) (fun _ _ _ _ _ => (pd_tup (fun h => pe_tup h) (pda_cons (pd_var (pv 4)) (pda_cons (pd_var (pv 5)) pda_nil)))) (by show ∀ i ∈ ([4, 5] : List Nat), ¬ (i ∈ ([0] : List Nat)); decide))
      (pds_one (psd_ret (pd_sortK D_rank.ok (hr.mono (by decide)) (by rfl) T.b_sorted (by rfl) D_rank.mg (by decide) D_rank.b (pd_var (pv 3)) (by rfl) (by rfl) (by rfl) (by rfl) (by rfl))))), ?_⟩
  rintro as Qd Ed ⟨rs, n, t, b, rfl, hl, k⟩
  refine DR.start (δ' := [some (.own (.ins OB (bkF C rs n))), some (.d (.str t)), some (.d (.str (side b))), none, none, none]) rfl ?_
  walk_at "dd"
  refine DR.lc_filterM (fun r => if (decide (r.2.t = t) && decide (r.2.b = b)) = true then some (rwD C r) else none) (fun r acc N hr hlt kN => ?_) ?_
  · walk_at "dd"
    cases hq : decide (r.2.t = t) with
    | false =>
      rw [hq, if_neg (by rw [Bool.false_and]; decide), Option.toList_none, List.append_nil] at kN
      walk_at "dd"
      exact kN
    | true =>
      walk_at "dd"
      rw [side_eq]
      cases hb : decide (r.2.b = b) with
      | false =>
        rw [hq, hb, if_neg (by decide), Option.toList_none, List.append_nil] at kN
        walk_at "dd"
        exact kN
      | true =>
        rw [hq, hb, if_pos (by rfl)] at kN
        walk_at "dd"
        exact ⟨Nat.lt_of_lt_of_le hlt (Nat.le_trans hl (by decide)), kN⟩
  rw [filterMap_if (c := fun r : Rw => decide (r.2.t = t) && decide (r.2.b = b))]
  walk_at "dd"
  refine ⟨_, kyD, rfl, fun d hd => ?_, ?_⟩
  · obtain ⟨r, _, rfl⟩ := List.mem_map.mp hd
    exact ⟨r, rfl, by rw [kyD_row]⟩
  have e : ((rs.filter fun r => decide (r.2.t = t) && decide (r.2.b = b)).map (rwD C)).mergeSort (le2 kyD) = (sideR rs t b).map (rwD C) := by
    unfold sideR
    refine (List.map_mergeSort fun a _ c _ => ?_).symm
    show le2 kyR a c = le2 kyD (rwD C a) (rwD C c)
    unfold le2
    rw [kyD_row, kyD_row]
  rw [e]
  walk_at "dd"
  exact k
theorem at0 {a : D} {l : List D} : atI (a :: l) 0 = some a := by
  unfold atI
  have e : ixN (a :: l).length 0 = some 0 := by
    unfold ixN
    simp
  rw [e]
  rfl
abbrev MSide (P : Program) (w : World) (K : PySem.W.Frag) (mg : Str → Option Value) (base : Heap) (C OB : Addr) := DefM P w K mg base OB "_side" 7 ["self", "thing", "side"] (sdSide C OB)
def sdBest (C OB : Addr) : SpD := fun as Q _ => ∃ (rs : List Rw) (n : Nat) (t : Str) (b : Bool), as = [.own (.ins OB (bkF C rs n)), .d (.str t), .d (.str (side b))] ∧ rs.length ≤ 1000 ∧ Q (.d (match sideR rs t b with | [] => .non | r :: _ => rwD C r)) [.ins OB (bkF C rs n)]
abbrev s_OrderBook_best : Stmt := inClass (top 23) 7
theorem sc_OrderBook_best : FnScope ["self", "thing", "side", "rows"] ["self", "thing", "side"] (defScope s_OrderBook_best) := ⟨rfl, rfl, rfl, by decide +kernel, rfl, by decide +kernel, by decide +kernel⟩
theorem ok_best (D_OrderBook__side : MSide P w K mg base C OB) {f : Addr} {fd : FuncData} (G : Fun K "best" "OrderBook.best" s_OrderBook_best f fd) (T : TxtBk K mg C OB) : FnOk P w K mg base (L2.CX P w) 9 f fd ["self", "thing", "side"] (spOf K (sdBest C OB)) := by
  refine okD G sc_OrderBook_best [0] (fun as Q E ⟨rs, n, x, b, e, _⟩ => by subst e; exact ⟨rfl, rfl⟩) ⟨_, fun cdv A outer s H E ad F0 H0 hr => (pds_cons (psd_set (i := 3) (pd_methOS (j := 0) (pv 0) T.cl_OrderBook D_OrderBook__side.me D_OrderBook__side.ok (hr.mono (by decide)) D_OrderBook__side.b (takes_of rfl rfl rfl rfl) (pda_cons (pd_var (pv 1)) (pda_cons (pd_var (pv 2)) pda_nil))) (by show ¬ (3 ∈ ([0] : List Nat)); decide) sc_OrderBook_best.nd rfl (.inl rfl))
      (pds_one (psd_ret (pd_ifExp (ptd_seq (pd_var (pv 3))) (pd_ix ix_list op2_ixL (pd_var (pv 3)) (pd_const pe_int (fun _ => .int _)) (fun _ _ => rfl)) (pd_const pe_non (fun _ => .non)))))), ?_⟩
  rintro as Qd Ed ⟨rs, n, t, b, rfl, hl, k⟩
  refine DR.start (δ' := [some (.own (.ins OB (bkF C rs n))), some (.d (.str t)), some (.d (.str (side b))), none]) rfl ?_
  walk_at "dd"
  refine ⟨rs, n, t, b, rfl, hl, ?_⟩
  walk_at "dd"
  refine ⟨_, .inr rfl, ?_⟩
  cases hs : sideR rs t b with
  | nil =>
    rw [hs] at k
    rw [show (!(List.map (rwD C) ([] : List Rw)).isEmpty) = false from rfl]
    walk_at "dd"
    exact k
  | cons r l =>
    rw [hs] at k
    rw [show (!(List.map (rwD C) (r :: l)).isEmpty) = true from rfl]
    walk_at "dd"
    refine ⟨_, _, .inl rfl, at0, ?_⟩
    walk_at "dd"
    exact k
end
end KT

set_option Elab.async false
set_option linter.all false
set_option maxRecDepth 100000
set_option maxHeartbeats 0
set_option pp.deepTerms false
set_option pp.deepTerms.threshold 8


namespace KT
open PySem PySem.Spec PyProof.Rows L2 DL
/-! levels: limits with their sums, in the order in which they come -/
abbrev eI (p : Int × Int) : Key × D := (.inl p.1, .int p.2)
def getI (ps : List (Int × Int)) (l : Int) : Int := match ps.find? (fun p => decide (p.1 = l)) with
  | some p => p.2
  | none => 0
def putI (ps : List (Int × Int)) (l c : Int) : List (Int × Int) := if (ps.any fun p => decide (p.1 = l)) = true then ps.map (fun p => if p.1 = l then (p.1, c) else p) else ps ++ [(l, c)]
def stepL (ps : List (Int × Int)) (r : Rw) : List (Int × Int) := putI ps r.2.l (getI ps r.2.l + r.2.n)
def lvF (rs : List Rw) : List (Int × Int) := rs.foldl stepL []
theorem inl_dec {a b : Int} : decide ((Sum.inl a : Key) = .inl b) = decide (a = b) := decide_eq_decide.mpr ⟨Sum.inl.inj, congrArg _⟩
theorem put_eI {ps : List (Int × Int)} {l c : Int} : putKD (ps.map eI) (.inl l) (.int c) = (putI ps l c).map eI := by
  have e : ((ps.map eI).any fun kv => decide (kv.1 = (.inl l : Key))) = ps.any fun p => decide (p.1 = l) := by
    rw [List.any_map]
    congr 1
    exact funext fun p => inl_dec
  unfold putKD putI
  rw [e]
  split
  · rw [List.map_map, List.map_map]
    refine List.map_congr_left fun p _ => ?_
    show (if (Sum.inl p.1 : Key) = .inl l then _ else _) = eI (if p.1 = l then _ else _)
    by_cases h : p.1 = l
    · rw [if_pos h, if_pos (congrArg _ h)]
    · rw [if_neg h, if_neg fun z => h (Sum.inl.inj z)]
  · rw [List.map_append]
    rfl
theorem get_eI {ps : List (Int × Int)} {l : Int} : (valK (ps.map eI) (.inl l)).getD (.int 0) = .int (getI ps l) := by
  unfold valK getI
  rw [List.find?_map]
  have e : ((fun p : Key × D => decide (p.1 = (.inl l : Key))) ∘ eI) = fun p => decide (p.1 = l) := funext fun p => inl_dec
  rw [e]
  cases ps.find? fun p => decide (p.1 = l) <;> rfl
theorem put_len {ps : List (Int × Int)} {l c : Int} : (putI ps l c).length ≤ ps.length + 1 := by
  unfold putI
  split
  · rw [List.length_map]; omega
  · rw [List.length_append]; exact Nat.le_refl _
theorem fold_len : ∀ {rs : List Rw} {ps : List (Int × Int)}, (rs.foldl stepL ps).length ≤ ps.length + rs.length
  | [], ps => Nat.le_refl _
  | r :: rs, ps => by
    have h := fold_len (rs := rs) (ps := stepL ps r)
    have h2 : (stepL ps r).length ≤ ps.length + 1 := put_len
    rw [List.foldl_cons, List.length_cons]
    omega
abbrev prI (p : Int × Int) : D := .tup [.int p.1, .int p.2]
section
variable {P : Program} {w : World} {K : PySem.W.Frag} {mg : Str → Option Value} {base : Heap} {C OB NO : Addr}
def sdLevels (C OB : Addr) : SpD := fun as Q _ => ∃ (rs : List Rw) (n : Nat) (t : Str) (b : Bool), as = [.own (.ins OB (bkF C rs n)), .d (.str t), .d (.str (side b))] ∧ rs.length ≤ 1000 ∧ Q (.d (.tup ((lvF (sideR rs t b)).map prI))) [.ins OB (bkF C rs n)]
abbrev s_OrderBook_levels : Stmt := inClass (top 23) 8
theorem sc_OrderBook_levels : FnScope ["self", "thing", "side", "counts", "_", "order"] ["self", "thing", "side"] (defScope s_OrderBook_levels) := ⟨rfl, rfl, rfl, by decide +kernel, rfl, by decide +kernel, by decide +kernel⟩
theorem ok_levels (D_OrderBook__side : MSide P w K mg base C OB) {f : Addr} {fd : FuncData} (G : Fun K "levels" "OrderBook.levels" s_OrderBook_levels f fd) (T : TxtBk K mg C OB) : FnOk P w K mg base (L2.CX P w) 9 f fd ["self", "thing", "side"] (spOf K (sdLevels C OB)) := by
  refine okD G sc_OrderBook_levels [0] (fun as Q E ⟨rs, n, x, b, e, _⟩ => by subst e; exact ⟨rfl, rfl⟩) ⟨_, fun cdv A outer s H E ad F0 H0 hr => (pds_cons (psd_setO (i := 3) (pd_newDK pe_dnewK) (by show ¬ (3 ∈ ([0] : List Nat)); decide) sc_OrderBook_levels.nd rfl (.inl rfl))
      (pds_cons (psd_for (passes_of rfl) rfl (pid_list (pd_methOS (j := 0) (pv 0) T.cl_OrderBook D_OrderBook__side.me D_OrderBook__side.ok (hr.mono (by decide)) D_OrderBook__side.b (takes_of rfl rfl rfl rfl) (pda_cons (pd_var (pv 1)) (pda_cons (pd_var (pv 2)) pda_nil)))) (pgd_tup (is := [4, 5]) (vs := [4, 5]) (pg_tup rfl (pgs_cons (pg_name (i := 4) sc_OrderBook_levels.nd rfl (.inl rfl)) (pgs_cons (pg_name (i := 5) sc_OrderBook_levels.nd rfl (.inl rfl)) pgs_nil))) rfl (by show ∀ i ∈ ([4, 5] : List Nat), ¬ (i ∈ ([0] : List Nat)) ∧ i ∈ ([4, 5] : List Nat); decide))
      (pds_one (psd_putK (j := 3) (hu_of hr) (fun ho hi hv => ps_dput (hu_of hr) ho hi hv (by rfl)) (pv 3) (pd_op op_add (op2_I0 fun _ _ _ => .int _) (pd_getKO2 (j := 3) (fun hd hk hx => pe_dget2 (hu_of hr) hd hk hx ⟨by rfl, by rfl, by rfl, by rfl⟩) (pv 3) (pd_fld (pd_var (pv 5)) T.cl_Order (T.na_Order _ (by decide)) rfl) (pd_const pe_int (fun _ => .int _))) (pd_fld (pd_var (pv 5)) T.cl_Order (T.na_Order _ (by decide)) rfl)) (pd_fld (pd_var (pv 5)) T.cl_Order (T.na_Order _ (by decide)) rfl))))
      (pds_one (psd_ret (pd_tupItems rfl (by rfl) T.b_tuple (pd_fvar (i := 3) (pv 3) (by show ¬ (3 ∈ ([0] : List Nat)); decide))))))), ?_⟩
  rintro as Qd Ed ⟨rs, n, t, b, rfl, hl, k⟩
  refine DR.start (δ' := [some (.own (.ins OB (bkF C rs n))), some (.d (.str t)), some (.d (.str (side b))), none, none, none]) rfl ?_
  walk_at "dd"
  refine ⟨rs, n, t, b, rfl, hl, ?_⟩
  have hsl : (sideR rs t b).length ≤ 1000 := by
    unfold sideR
    rw [List.length_mergeSort]
    exact Nat.le_trans (List.length_filter_le ..) hl
  walk_at "dd"
  refine DR.for_inv (fun i δ => ∃ p4 p5, δ = [some (.own (.ins OB (bkF C rs n))), some (.d (.str t)), some (.d (.str (side b))), some (.own (.dK ((((sideR rs t b).take i).foldl stepL []).map eI))), p4, p5]) ⟨none, none, rfl⟩ ?_ ?_
  · rintro i x δ N hx ⟨p4, p5, rfl⟩ kN
    obtain ⟨r, hri, rfl⟩ := DR.map_at hx
    have hi : i < (sideR rs t b).length := DR.at_lt hri
    have hfl := fold_len (rs := (sideR rs t b).take i) (ps := [])
    rw [foldl_take hri] at kN
    generalize hps : ((sideR rs t b).take i).foldl stepL [] = ps at hfl kN ⊢
    walk_at "dd"
    refine DR.getKO2 rfl ?_
    walk_at "dd"
    refine ⟨_, .inl r.2.l, rfl, rfl, ?_⟩
    rw [show ((valK (ps.map eI) (.inl r.2.l)).getD (DV.d (D.int 0)).toD) = .int (getI ps r.2.l) from get_eI]
    walk_at "dd"
    refine ⟨_, .inl r.2.l, rfl, rfl, by rw [List.length_map]; rw [List.length_take] at hfl; exact Nat.lt_of_le_of_lt (show ps.length ≤ 1000 by have : ([] : List (Int × Int)).length = 0 := rfl; omega) (by decide), ?_⟩
    walk_at "dd"
    refine kN _ ⟨some (.d (.int r.1)), some (.d (odD C r.2)), ?_⟩
    show _ = [_, _, _, some (DV.own (OC.dK ((putI ps r.2.l (getI ps r.2.l + r.2.n)).map eI))), _, _]
    rw [← put_eI]
    rfl
  · rintro δ ⟨p4, p5, rfl⟩
    rw [List.length_map, List.take_length]
    walk_at "dd"
    refine ⟨fun kv h => ?_, ?_⟩
    · obtain ⟨p, _, rfl⟩ := List.mem_map.mp h
      exact ⟨p.1, rfl⟩
    walk_at "dd"
    have e : itemsL (((sideR rs t b).foldl stepL []).map eI) = (lvF (sideR rs t b)).map prI := by
      unfold itemsL lvF
      rw [List.map_map]
      rfl
    rw [e]
    exact k
def sdWould (C OB : Addr) : SpD := fun as Q _ => ∃ (rs : List Rw) (n : Nat) (o : Od), as = [.own (.ins OB (bkF C rs n)), .d (odD C o)] ∧ rs.length ≤ 1000 ∧ Q (.d (fsD (mat rs o).fs)) [.ins OB (bkF C rs n)]
abbrev s_OrderBook_would_fill : Stmt := inClass (top 23) 2
theorem sc_OrderBook_would_fill : FnScope ["self", "order"] ["self", "order"] (defScope s_OrderBook_would_fill) := ⟨rfl, rfl, rfl, by decide +kernel, rfl, by decide +kernel, by decide +kernel⟩
theorem ok_would (D_matched : DefD P w K mg base "_matched" 7 ["rows", "placed"] (sdMatched C)) {f : Addr} {fd : FuncData} (G : Fun K "would_fill" "OrderBook.would_fill" s_OrderBook_would_fill f fd) (T : TxtBk K mg C OB) : FnOk P w K mg base (L2.CX P w) 9 f fd ["self", "order"] (spOf K (sdWould C OB)) := by
  refine okD G sc_OrderBook_would_fill [0] (fun as Q E ⟨rs, n, o, e, _⟩ => by subst e; exact ⟨rfl, rfl⟩) ⟨_, fun cdv A outer s H E ad F0 H0 hr => (pds_one (psd_ret (pd_ix ix_tup op2_ixT (pd_call D_matched.ok (hr.mono (by decide)) (by rfl) D_matched.mg D_matched.kp D_matched.b (takes_of rfl rfl rfl rfl) (pda_cons (pd_fldO (i := 0) (pv 0) T.cl_OrderBook (T.na_OrderBook _ (by decide)) rfl) (pda_cons (pd_var (pv 1)) pda_nil))) (pd_const pe_int (fun _ => .int _)) (fun _ _ => rfl)))), ?_⟩
  rintro as Qd Ed ⟨rs, n, o, rfl, hl, k⟩
  refine DR.start (δ' := [some (.own (.ins OB (bkF C rs n))), some (.d (odD C o))]) rfl ?_
  walk_at "dd"
  refine ⟨rs, o, rfl, hl, ?_⟩
  walk_at "dd"
  exact k
def sdLen (C OB : Addr) : SpD := fun as Q _ => ∃ (rs : List Rw) (n : Nat), as = [.own (.ins OB (bkF C rs n))] ∧ Q (.d (.int (rs.length : Int))) [.ins OB (bkF C rs n)]
abbrev s_OrderBook___len : Stmt := inClass (top 23) 12
theorem sc_OrderBook___len : FnScope ["self"] ["self"] (defScope s_OrderBook___len) := ⟨rfl, rfl, rfl, by decide +kernel, rfl, by decide +kernel, by decide +kernel⟩
theorem ok_len {f : Addr} {fd : FuncData} (G : Fun K "__len__" "OrderBook.__len__" s_OrderBook___len f fd) (T : TxtBk K mg C OB) : FnOk P w K mg base (L2.CX P w) 1 f fd ["self"] (spOf K (sdLen C OB)) := by
  refine okD G sc_OrderBook___len [0] (fun as Q E ⟨rs, n, e, _⟩ => by subst e; exact ⟨rfl, rfl⟩) ⟨_, fun cdv A outer s H E ad F0 H0 hr => (pds_one (psd_ret (pd_builtB (fun h => pe_callB call_len_seq (by rfl) T.b_len (by decide +kernel) h) cn_len.op (pda_cons (pd_fldO (i := 0) (pv 0) T.cl_OrderBook (T.na_OrderBook _ (by decide)) rfl) pda_nil)))), ?_⟩
  rintro as Qd Ed ⟨rs, n, rfl, k⟩
  refine DR.start (δ' := [some (.own (.ins OB (bkF C rs n)))]) rfl ?_
  walk_at "dd"
  rw [List.length_map]
  exact k
end
abbrev s_OrderBook___iter : Stmt := inClass (top 23) 11
theorem sc_OrderBook___iter : FnScope ["self"] ["self"] (defScope s_OrderBook___iter) := ⟨rfl, rfl, rfl, by decide +kernel, rfl, by decide +kernel, by decide +kernel⟩
theorem iter_of {K : PySem.W.Frag} {C f : Addr} {fd : FuncData} (c : Cls K C) (na : NoAttr K C "_rows") (at_ : PySem.W.findIn K (.ref C) "__iter__" = some (some (.ref f))) (fn : PySem.W.isFn K (.ref f) = true) (fu : Fun K "__iter__" "OrderBook.__iter__" s_OrderBook___iter f fd) (bd : Binds K fd ["self"] []) : IterOf K C f "OrderBook.__iter__" "_rows" s_OrderBook___iter fd where
  at_ := at_
  fn := fn
  fu := fu
  sc := sc_OrderBook___iter
  bd := bd
  body := fun P w mg base A outer s G E cdv hm => ⟨_, pss_one (ps_ret (pe_callB call_iterT (by rfl) hm (by decide +kernel) (pa_cons (pe_fld (pv 0) (by rfl)) pa_nil))), fun a dx q us xs Q ha hf hq k => by
    exact ⟨_, rfl, a, C, dx, us, .ref q, rfl, ha, c, na, hf, q, xs, rfl, hq, k⟩⟩
end KT

set_option Elab.async false
set_option linter.all false
set_option maxRecDepth 100000
set_option maxHeartbeats 0
set_option pp.deepTerms false
set_option pp.deepTerms.threshold 8


namespace KT
open PySem PySem.Spec PyProof.Rows L2 DL
theorem any_str {s : Str} : ∀ {ns : List Str}, ((pyL (ns.map D.str)).any fun z => PyData.eqv z (D.str s).py) = decide (s ∈ ns)
  | [] => by simp [pyL]
  | a :: ns => by
    rw [List.map_cons]
    simp only [pyL, List.any_cons]
    rw [any_str, eqv_str]
    by_cases e : a = s
    · simp [e]
    · simp [e, Ne.symm e]
theorem atI_map {f : α → β} {xs : List α} {i : Nat} {x : α} (h : xs[i]? = some x) : atI (xs.map f) (i : Int) = some (f x) := by
  unfold atI
  rw [List.length_map]
  have hl : i < xs.length := by
    rcases Nat.lt_or_ge i xs.length with h1 | h1
    · exact h1
    · rw [List.getElem?_eq_none h1] at h; cases h
  have e : ixN xs.length (i : Int) = some i := by
    unfold ixN
    rw [if_pos (by omega)]
    simp [hl]
  rw [e]
  show (xs.map f)[i]? = _
  rw [List.getElem?_map, h]
  rfl
/-- a bag of draws -/
def Bg (ys : List D) : Prop := ∃ x y : Int, ys = [.int x, .int y] ∧ 0 ≤ x ∧ 0 ≤ y ∧ y < 2147483647
section
variable {P : Program} {w : World} {K : PySem.W.Frag} {mg : Str → Option Value} {base : Heap} {C OG BG : Addr}
def sdTake : SpD := fun as Q _ => ∃ (ys : List D) (m : Int), as = [.own (.lst ys), .d (.int m)] ∧ Bg ys ∧ 0 < m ∧ m < 2 ^ 64 ∧ ∀ (r : Int) (ys : List D), 0 ≤ r → r < m → Bg ys → Q (.d (.int r)) [.lst ys]
abbrev s_law_take : Stmt := top 26
theorem sc_law_take : FnScope ["bag", "many", "digit"] ["bag", "many"] (defScope s_law_take) := ⟨rfl, rfl, rfl, by decide +kernel, rfl, by decide +kernel, by decide +kernel⟩
theorem ok_take {f : Addr} {fd : FuncData} (G : Fun K "_law_take" "_law_take" s_law_take f fd) (T : TxtB mg) : FnOk P w K mg base (L2.CX P w) 1 f fd ["bag", "many"] (spOf K sdTake) := by
  refine okD G sc_law_take [0] (fun as Q E ⟨ys, m, e, _⟩ => by subst e; exact ⟨rfl, rfl⟩) ⟨_, fun cdv A outer s H E ad F0 H0 hr => (pds_cons (psd_if (ptd_cmp op_gt (op2_I0 fun _ _ _ => .bl _) (pd_ixO (i := 0) (pv 0) (pd_const pe_int (fun _ => .int _)) (fun _ _ => rfl)) (pd_const pe_int (fun _ => .int _)) (nomark _)) (pds_cons (psd_set (i := 2) (pd_op op_mod (op2_I fun _ _ _ => .int _) (pd_builtB (fun h => pe_callTy call_int1 (by rfl) T.b_int (by decide +kernel) h) cn_int.op (pda_cons (pd_ixO (i := 0) (pv 0) (pd_const pe_int (fun _ => .int _)) (fun _ _ => rfl)) pda_nil)) (pd_var (pv 1))) (by show ¬ (2 ∈ ([0] : List Nat)); decide) sc_law_take.nd rfl (.inl rfl))
      (pds_cons (psd_setItem (j := 0) (fun h g => ps_asg h g) (fun ho hi hs => pg_sub ho hi hs) (pv 0) (pd_op op_fdivW (op2_I fun _ _ _ => .int _) (pd_ixO (i := 0) (pv 0) (pd_const pe_int (fun _ => .int _)) (fun _ _ => rfl)) (pd_var (pv 1))) (pd_const pe_int (fun _ => .int _)))
      (pds_one (psd_ret (pd_var (pv 2)))))) pds_nil)
      (pds_cons (psd_setItem (j := 0) (fun h g => ps_asg h g) (fun ho hi hs => pg_sub ho hi hs) (pv 0) (pd_op op_mod (op2_I fun _ _ _ => .int _) (pd_builtB (fun h => pe_callTy call_int1 (by rfl) T.b_int (by decide +kernel) h) cn_int.op (pda_cons (pd_op op_add (op2_I0 fun _ _ _ => .int _) (pd_op op_mul (op2_I fun _ _ _ => .int _) (pd_ixO (i := 0) (pv 0) (pd_const pe_int (fun _ => .int _)) (fun _ _ => rfl)) (pd_const pe_int (fun _ => .int _))) (pd_const pe_int (fun _ => .int _))) pda_nil)) (pd_const pe_int (fun _ => .int _))) (pd_const pe_int (fun _ => .int _)))
      (pds_one (psd_ret (pd_op op_mod (op2_I fun _ _ _ => .int _) (pd_op op_fdivW (op2_I fun _ _ _ => .int _) (pd_op op_mod (op2_I fun _ _ _ => .int _) (pd_builtB (fun h => pe_callTy call_int1 (by rfl) T.b_int (by decide +kernel) h) cn_int.op (pda_cons (pd_op op_mul (op2_I fun _ _ _ => .int _) (pd_op op_fdivW (op2_I fun _ _ _ => .int _) (pd_ixO (i := 0) (pv 0) (pd_const pe_int (fun _ => .int _)) (fun _ _ => rfl)) (pd_const pe_int (fun _ => .int _))) (pd_const pe_int (fun _ => .int _))) pda_nil)) (pd_const pe_int (fun _ => .int _))) (pd_const pe_int (fun _ => .int _))) (pd_var (pv 1))))))), ?_⟩
  rintro as Qd Ed ⟨ys, m, rfl, ⟨x, y, rfl, x0, y0, y1⟩, m0, m1, k⟩
  refine DR.start (δ' := [some (.own (.lst [.int x, .int y])), some (.d (.int m)), none]) rfl ?_
  walk_at "dd"
  refine DR.split (fun c => ?_) (fun c => ?_)
  · walk_at "dd"
    refine ⟨wide_div m0 (b := 64) (by omega) (by decide) (by decide), ?_⟩
    walk_at "dd"
    exact k _ _ (Int.emod_nonneg _ (by omega)) (Int.emod_lt_of_pos _ m0) ⟨x / m, y, rfl, Int.ediv_nonneg x0 (by omega), y0, y1⟩
  · walk_at "dd"
    have h1 : 0 ≤ (y * 48271 + 60013) % 2147483629 := Int.emod_nonneg _ (by decide)
    have h2 : (y * 48271 + 60013) % 2147483629 < 2147483629 := Int.emod_lt_of_pos _ (by decide)
    exact k _ _ (Int.emod_nonneg _ (by omega)) (Int.emod_lt_of_pos _ m0) ⟨x, _, rfl, x0, h1, by omega⟩
theorem take {ys : List D} {m : Int} {Q : DV → List OC → Prop} {E : Ex → List OC → Prop} (h : Bg ys) (m0 : 0 < m) (m1 : m < 2 ^ 64) (k : ∀ (r : Int) (ys : List D), 0 ≤ r → r < m → Bg ys → Q (.d (.int r)) [.lst ys]) : sdTake [.own (.lst ys), .d (.int m)] Q E := ⟨ys, m, rfl, h, m0, m1, k⟩
def sdBag : SpD := fun as Q _ => ∃ (zs : List Int) (p : Nat), as = [.d (.ro (zs.map .int)), .d (.int p)] ∧ p < 64 ∧ ∀ ys, Bg ys → Q (.own (.lst ys)) []
abbrev s_law_bag : Stmt := top 25
theorem sc_law_bag : FnScope ["script", "at", "cell", "mixed", "k", "each"] ["script", "at"] (defScope s_law_bag) := ⟨rfl, rfl, rfl, by decide +kernel, rfl, by decide +kernel, by decide +kernel⟩
theorem ok_bag {f : Addr} {fd : FuncData} (G : Fun K "_law_bag" "_law_bag" s_law_bag f fd) (T : TxtN mg) : FnOk P w K mg base (L2.CX P w) 1 f fd ["script", "at"] (spOf K sdBag) := by
  refine okD G sc_law_bag [] (fun as Q E ⟨zs, p, e, _⟩ => by subst e; exact ⟨rfl, rfl⟩) ⟨_, fun cdv A outer s H E ad F0 H0 hr => (pds_cons (psd_set (i := 2) (pd_ifExp (ptd_cmp op_lt (op2_I0 fun _ _ _ => .bl _) (pd_var (pv 1)) (pd_builtB (fun h => pe_callB call_len_seq (by rfl) T.b_len (by decide +kernel) h) cn_len.op (pda_cons (pd_var (pv 0)) pda_nil)) (nomark _)) (pd_ix ix_list op2_ixL (pd_var (pv 0)) (pd_var (pv 1)) (fun _ _ => rfl)) (pd_const pe_int (fun _ => .int _))) (by show ¬ (2 ∈ ([] : List Nat)); decide) sc_law_bag.nd rfl (.inl rfl))
      (pds_cons (psd_set (i := 3) (pd_op op_add (op2_I0 fun _ _ _ => .int _) (pd_op op_mul (op2_I fun _ _ _ => .int _) (pd_const pe_int (fun _ => .int _)) (pd_var (pv 1))) (pd_const pe_int (fun _ => .int _))) (by show ¬ (3 ∈ ([] : List Nat)); decide) sc_law_bag.nd rfl (.inl rfl))
      (pds_cons (psd_for (passes_of rfl) rfl (pid_enum (by rfl) T.b_enumerate (pda_cons (pd_slice (pd_var (pv 0)) pod_none (pod_some (pd_const pe_int (fun _ => .int _)))) pda_nil)) (pgd_tup (is := [4, 5]) (vs := [4, 5]) (pg_tup rfl (pgs_cons (pg_name (i := 4) sc_law_bag.nd rfl (.inl rfl)) (pgs_cons (pg_name (i := 5) sc_law_bag.nd rfl (.inl rfl)) pgs_nil))) rfl (by show ∀ i ∈ ([4, 5] : List Nat), ¬ (i ∈ ([] : List Nat)) ∧ i ∈ ([4, 5] : List Nat); decide))
      (pds_one (psd_set (i := 3) (pd_op op_mod (op2_I fun _ _ _ => .int _) (pd_builtB (fun h => pe_callTy call_int1 (by rfl) T.b_int (by decide +kernel) h) cn_int.op (pda_cons (pd_op op_add (op2_I0 fun _ _ _ => .int _) (pd_op op_add (op2_I0 fun _ _ _ => .int _) (pd_op op_mul (op2_I fun _ _ _ => .int _) (pd_var (pv 3)) (pd_const pe_int (fun _ => .int _))) (pd_op op_mod (op2_I fun _ _ _ => .int _) (pd_builtB (fun h => pe_callTy call_int1 (by rfl) T.b_int (by decide +kernel) h) cn_int.op (pda_cons (pd_var (pv 5)) pda_nil)) (pd_const pe_int (fun _ => .int _)))) (pd_op op_mul (op2_I fun _ _ _ => .int _) (pd_const pe_int (fun _ => .int _)) (pd_var (pv 4)))) pda_nil)) (pd_const pe_int (fun _ => .int _))) (by show ¬ (3 ∈ ([] : List Nat)); decide) sc_law_bag.nd rfl (.inl rfl))))
      (pds_one (psd_ret (pd_lst (fun h => pe_lst h) (pda_cons (pd_ifExp (ptd_cmp op_ge (op2_I0 fun _ _ _ => .bl _) (pd_builtB (fun h => pe_callB call_abs (by rfl) T.b_abs (by decide +kernel) h) cn_abs.op (pda_cons (pd_var (pv 2)) pda_nil)) (pd_op op_pow (op2_I fun _ _ _ => .int _) (pd_const pe_int (fun _ => .int _)) (pd_const pe_int (fun _ => .int _))) (nomark _)) (pd_builtB (fun h => pe_callB call_abs (by rfl) T.b_abs (by decide +kernel) h) cn_abs.op (pda_cons (pd_var (pv 2)) pda_nil)) (pd_const pe_int (fun _ => .int _))) (pda_cons (pd_var (pv 3)) pda_nil)))))))), ?_⟩
  rintro as Qd Ed ⟨zs, p, rfl, hp, k⟩
  refine DR.start (δ' := [some (.d (.ro (zs.map .int))), some (.d (.int p)), none, none, none, none]) rfl ?_
  with_reducible refine DR.cut (fun δ => ∃ cell : Int, δ = [some (.d (.ro (zs.map .int))), some (.d (.int p)), some (.d (.int cell)), none, none, none]) (fun N kN => ?_) ?_
  · walk_at "dd"
    refine DR.split (fun c => ?_) (fun c => ?_)
    · walk_at "dd"
      have hl : p < zs.length := by rw [List.length_map] at c; omega
      refine ⟨_, _, .inr rfl, atI_map (List.getElem?_eq_getElem hl), ?_⟩
      exact kN _ ⟨_, rfl⟩
    · walk_at "dd"
      exact kN _ ⟨_, rfl⟩
  rintro δ ⟨cell, rfl⟩
  with_reducible refine DR.cut (fun δ => δ = [some (.d (.ro (zs.map .int))), some (.d (.int p)), some (.d (.int cell)), some (.d (.int (6151 * p + 877))), none, none]) (fun N kN => ?_) ?_
  · walk_at "dd"
    exact kN _ rfl
  rintro δ rfl
  walk_at "dd"
  refine ⟨_, .inr rfl, ?_⟩
  walk_at "dd"
  refine ⟨_, _, rfl, .inl rfl, ?_⟩
  refine DR.for_inv (fun i δ => ∃ (m : Int) (p4 p5 : Option DV), 0 ≤ m ∧ m < 2147483647 ∧ δ = [some (.d (.ro (zs.map .int))), some (.d (.int p)), some (.d (.int cell)), some (.d (.int m)), p4, p5]) ⟨6151 * (p : Int) + 877, _, _, by omega, by omega, rfl⟩ ?_ ?_
  · rintro i x δ N hx ⟨m, p4, p5, m0, m1, rfl⟩ kN
    obtain ⟨d, hd, rfl⟩ := DR.enum_at hx
    have hd := List.mem_of_getElem? hd
    obtain ⟨z, rfl⟩ : ∃ z : Int, d = .int z := by
      unfold DL.cutD at hd
      have hd := List.mem_of_mem_drop (List.mem_of_mem_take hd)
      obtain ⟨z, _, rfl⟩ := List.mem_map.mp hd
      exact ⟨z, rfl⟩
    walk_at "dd"
    refine kN _ ⟨_, _, _, Int.emod_nonneg _ (by decide), ?_, rfl⟩
    have := Int.emod_lt_of_pos (m * 40692 + z % 2147483399 + 457 * i) (show (0 : Int) < 2147483563 by decide)
    omega
  · rintro δ ⟨m, p4, p5, m0, m1, rfl⟩
    walk_at "dd"
    refine DR.split (fun c => ?_) (fun c => ?_)
    · walk_at "dd"
      exact k _ ⟨_, _, rfl, by split <;> omega, m0, m1⟩
    · walk_at "dd"
      exact k _ ⟨_, _, rfl, by omega, m0, m1⟩
def sdOf : SpD := fun as Q _ => ∃ (ys xs : List D) (x : D), as = [.own (.lst ys), .d x] ∧ x = .lst xs ∧ Bg ys ∧ 0 < xs.length ∧ xs.length < 1000 ∧ ∀ (g : D) (ys : List D), g ∈ xs → Bg ys → Q (.d g) [.lst ys]
abbrev s_law_of : Stmt := top 27
theorem sc_law_of : FnScope ["bag", "some"] ["bag", "some"] (defScope s_law_of) := ⟨rfl, rfl, rfl, by decide +kernel, rfl, by decide +kernel, by decide +kernel⟩
theorem ok_of (D_law_take : DefD P w K mg base "_law_take" 1 ["bag", "many"] sdTake) {f : Addr} {fd : FuncData} (G : Fun K "_law_of" "_law_of" s_law_of f fd) (T : TxtB mg) : FnOk P w K mg base (L2.CX P w) 3 f fd ["bag", "some"] (spOf K sdOf) := by
  refine okD G sc_law_of [0] (fun as Q E ⟨ys, m, x, e, _⟩ => by subst e; exact ⟨rfl, rfl⟩) ⟨_, fun cdv A outer s H E ad F0 H0 hr => (pds_one (psd_ret (pd_ix ix_list op2_ixL (pd_var (pv 1)) (pd_call D_law_take.ok (hr.mono (by decide)) (by rfl) D_law_take.mg D_law_take.kp D_law_take.b (takes_of rfl rfl rfl rfl) (pda_own (i := 0) (pv 0) (pda_cons (pd_builtB (fun h => pe_callB call_len_seq (by rfl) T.b_len (by decide +kernel) h) cn_len.op (pda_cons (pd_var (pv 1)) pda_nil)) pda_nil))) (fun _ _ => rfl)))), ?_⟩
  rintro as Qd Ed ⟨ys, xs, x, rfl, rfl, hb, h0, hl, k⟩
  refine DR.start (δ' := [some (.own (.lst ys)), some (.d (.lst xs))]) rfl ?_
  walk_at "dd"
  refine take hb (by omega) (by omega) fun r ys r0 r1 hb => ?_
  walk_at "dd"
  have hr : r.toNat < xs.length := by omega
  have e : ((r.toNat : Nat) : Int) = r := Int.toNat_of_nonneg r0
  have at' : atI xs (r.toNat : Int) = some xs[r.toNat] := by
    have := atI_map (f := fun d : D => d) (List.getElem?_eq_getElem hr)
    rwa [List.map_id' ] at this
  rw [e] at at'
  refine ⟨_, _, .inl rfl, at', ?_⟩
  walk_at "dd"
  exact k _ ys (List.getElem_mem hr) hb
theorem of {ys xs : List D} {x : D} {Q : DV → List OC → Prop} {E : Ex → List OC → Prop} (e : x = .lst xs) (h : Bg ys) (h0 : 0 < xs.length) (hl : xs.length < 1000) (k : ∀ (g : D) (ys : List D), g ∈ xs → Bg ys → Q (.d g) [.lst ys]) : sdOf [.own (.lst ys), .d x] Q E := ⟨ys, xs, x, rfl, e, h, h0, hl, k⟩
/-- texts of a row of texts -/
theorem ofs {ys : List D} {gs : List Str} {x : D} {Q : DV → List OC → Prop} {E : Ex → List OC → Prop} (e : x = .lst (gs.map .str)) (h : Bg ys) (hn : gs ≠ []) (hl : gs.length < 1000) (k : ∀ (g : Str) (ys : List D), g ∈ gs → Bg ys → Q (.d (.str g)) [.lst ys]) : sdOf [.own (.lst ys), .d x] Q E :=
  of e h (by rw [List.length_map]; exact List.length_pos_iff.mpr hn) (by rw [List.length_map]; exact hl) fun g ys hg hb => by
    obtain ⟨z, hz, rfl⟩ := List.mem_map.mp hg
    exact k z ys hz hb
/-- numbers of a row of numbers -/
theorem ofi {ys : List D} {js : List Int} {x : D} {Q : DV → List OC → Prop} {E : Ex → List OC → Prop} (e : x = .lst (js.map .int)) (h : Bg ys) (hn : js ≠ []) (hl : js.length < 1000) (k : ∀ (j : Int) (ys : List D), j ∈ js → Bg ys → Q (.d (.int j)) [.lst ys]) : sdOf [.own (.lst ys), .d x] Q E :=
  of e h (by rw [List.length_map]; exact List.length_pos_iff.mpr hn) (by rw [List.length_map]; exact hl) fun g ys hg hb => by
    obtain ⟨z, hz, rfl⟩ := List.mem_map.mp hg
    exact k z ys hz hb
def Low (z : Str) : Prop := ∀ c ∈ z.cps.toList, 97 ≤ c ∧ c ≤ 122
def sg (c : Nat) : Str := ⟨#[c]⟩
theorem str_cps {a b : Str} : (a ++ b).cps.toList = a.cps.toList ++ b.cps.toList := Array.toList_append
theorem str_len {a b : Str} : (a ++ b).length = a.length + b.length := Array.size_append
theorem low_app {a b : Str} (h1 : Low a) (h2 : Low b) : Low (a ++ b) := fun c hc => by
  rw [str_cps] at hc
  exact (List.mem_append.mp hc).elim (h1 c) (h2 c)
theorem five {g : Str} (h : g ∈ (["a", "z", "s", "h", "m"] : List Str)) : g.length = 1 ∧ Low g := by
  have e : ∀ g ∈ (["a", "z", "s", "h", "m"] : List Str), g.length = 1 ∧ ∀ c ∈ g.cps.toList, 97 ≤ c ∧ c ≤ 122 := by decide +kernel
  exact e g h
def abc : List Nat := (Str.ofString "abcdefghijklmnopqrstuvwxyz").cps.toList
def sgD (c : Nat) : D := .str ⟨#[c]⟩
/-- a name: a letter within a stem -/
def mkN (z : Str) (n c : Nat) : Str := Txt.slice z none (some (n : Int)) ++ ⟨#[c]⟩ ++ Txt.slice z (some (n : Int)) none
theorem mk_cps {z : Str} {n c : Nat} (h : n ≤ z.length) : (mkN z n c).cps.toList = z.cps.toList.take n ++ [c] ++ z.cps.toList.drop n := by
  unfold mkN
  rw [str_cps, str_cps, slice_hi h, slice_lo h]
theorem mk_len {z : Str} {n c : Nat} (h : n ≤ z.length) : (mkN z n c).length = z.length + 1 := by
  have e : ∀ s : Str, s.length = s.cps.toList.length := fun s => (Array.length_toList).symm
  rw [e, mk_cps h, e z]
  have h : n ≤ z.cps.toList.length := by rw [← e]; exact h
  simp only [List.length_append, List.length_take, List.length_drop, List.length_cons, List.length_nil]
  omega
theorem mk_inj {z : Str} {n c d : Nat} (h : n ≤ z.length) (e : mkN z n c = mkN z n d) : c = d := by
  have e := congrArg (fun s : Str => s.cps.toList) e
  simp only [mk_cps h, List.append_assoc] at e
  have e := List.append_cancel_left e
  simpa using e
theorem mk_low {z : Str} {n c : Nat} (h : n ≤ z.length) (hz : Low z) (hc : 97 ≤ c ∧ c ≤ 122) : Low (mkN z n c) := fun d hd => by
  rw [mk_cps h] at hd
  rcases List.mem_append.mp hd with hd | hd
  · rcases List.mem_append.mp hd with hd | hd
    · exact hz d (List.mem_of_mem_take hd)
    · rw [List.mem_singleton.mp hd]; exact hc
  · exact hz d (List.mem_of_mem_drop hd)
theorem abc_low : ∀ c ∈ abc, 97 ≤ c ∧ c ≤ 122 := by decide +kernel
theorem abc_nd : abc.Nodup := by decide +kernel
theorem erase_map {α β : Type} {f : α → β} : ∀ {l : List α} {n : Nat}, (l.map f).eraseIdx n = (l.eraseIdx n).map f
  | [], _ => rfl
  | _ :: _, 0 => rfl
  | a :: l, n + 1 => congrArg (f a :: ·) (erase_map (l := l) (n := n))
theorem erase_perm {α : Type} : ∀ {l : List α} {n : Nat} (h : n < l.length), (l[n] :: l.eraseIdx n).Perm l
  | [], _, h => nomatch h
  | _ :: _, 0, _ => .refl _
  | a :: l, n + 1, h => (List.Perm.swap a (l[n]'(Nat.lt_of_succ_lt_succ h)) (l.eraseIdx n)).trans (.cons a (erase_perm (Nat.lt_of_succ_lt_succ h)))
theorem six {r : Int} {n : Nat} (h0 : 0 ≤ r) (h1 : r < n) : seqIndex? r n = some r.toNat := by
  unfold seqIndex?
  simp
  omega
theorem upto_at {m i : Nat} {x : D} (h : (upto 0 m)[i]? = some x) : x = .int i ∧ i < m := by
  unfold upto at h
  rw [List.getElem?_map] at h
  rcases Nat.lt_or_ge i m with hi | hi
  · rw [List.getElem?_range hi] at h
    cases h
    exact ⟨by show D.int (0 + (i : Int)) = _; rw [Int.zero_add], hi⟩
  · rw [List.getElem?_eq_none (by rw [List.length_range]; exact hi)] at h
    cases h
theorem upto_len {m : Nat} : (upto 0 m).length = m := by
  unfold upto
  simp
/-- goods of at most k names -/
def sdNames : SpD := fun as Q _ => ∃ (ys : List D) (k : Nat), as = [.own (.lst ys), .d (.int k)] ∧ Bg ys ∧ 1 ≤ k ∧ k ≤ 5 ∧ ∀ (gs : List Str) (ys : List D), Goods gs → gs.length = k → Bg ys → Q (.own (.lst (gs.map .str))) [.lst ys] ∧ Q (.d (.lst (gs.map .str))) [.lst ys]
theorem names {ys : List D} {n : Nat} {Q : DV → List OC → Prop} {E : Ex → List OC → Prop} (h : Bg ys) (h1 : 1 ≤ n) (h5 : n ≤ 5) (k : ∀ (gs : List Str) (ys : List D), Goods gs → gs.length = n → Bg ys → Q (.own (.lst (gs.map .str))) [.lst ys] ∧ Q (.d (.lst (gs.map .str))) [.lst ys]) : sdNames [.own (.lst ys), .d (.int n)] Q E := ⟨ys, n, rfl, h, h1, h5, k⟩
theorem str_x {a b : Str} (h : a.cps.toList = b.cps.toList) : a = b := by
  cases a; cases b
  exact congrArg _ (Array.toList_inj.mp h)
theorem low_q : Low "q" := by unfold Low; decide +kernel
theorem q_ne {g : Str} : g ++ "q" ≠ "cash" := fun e => by
  have e := congrArg (fun s : Str => s.cps.toList.getLast?) e
  simp only [str_cps] at e
  rw [show (("q" : Str).cps.toList) = [113] from rfl, List.getLast?_concat] at e
  exact absurd e (by decide +kernel)
theorem q_inj {g h : Str} (e : g ++ "q" = h ++ "q") : g = h := by
  have e := congrArg (fun s : Str => s.cps.toList) e
  simp only [str_cps] at e
  exact str_x (List.append_cancel_right e)
/-- a stem -/
def Stm (z : Str) : Prop := ∀ c ∈ z.cps.toList, c ∈ ([97, 122, 115, 104, 109] : List Nat)
theorem stm_low {z : Str} (h : Stm z) : Low z := fun c hc => by
  have := h c hc
  simp only [List.mem_cons, List.not_mem_nil, or_false] at this
  omega
theorem stm_app {a b : Str} (h1 : Stm a) (h2 : Stm b) : Stm (a ++ b) := fun c hc => by
  rw [str_cps] at hc
  exact (List.mem_append.mp hc).elim (h1 c) (h2 c)
theorem fiveS {g : Str} (h : g ∈ (["a", "z", "s", "h", "m"] : List Str)) : g.length = 1 ∧ Stm g := by
  have e : ∀ g ∈ (["a", "z", "s", "h", "m"] : List Str), g.length = 1 ∧ ∀ c ∈ g.cps.toList, c ∈ ([97, 122, 115, 104, 109] : List Nat) := by decide +kernel
  exact e g h
theorem other_in : 111 ∈ (Str.ofString "other").cps.toList ∧ 116 ∈ (Str.ofString "other").cps.toList := by decide +kernel
theorem mk_other {z : Str} {n c : Nat} (h : n ≤ z.length) (hz : Stm z) {q : Str} (hq : ∀ d ∈ q.cps.toList, d = 113) : mkN z n c ++ q ≠ "other" := fun e => by
  have m : ∀ d ∈ (Str.ofString "other").cps.toList, d ∈ ([97, 122, 115, 104, 109] : List Nat) ∨ d = c ∨ d = 113 := fun d hd => by
    rw [← e, str_cps, mk_cps h] at hd
    rcases List.mem_append.mp hd with hd | hd
    · rcases List.mem_append.mp hd with hd | hd
      · rcases List.mem_append.mp hd with hd | hd
        · exact .inl (hz d (List.mem_of_mem_take hd))
        · exact .inr (.inl (List.mem_singleton.mp hd))
      · exact .inl (hz d (List.mem_of_mem_drop hd))
    · exact .inr (.inr (hq d hd))
  have a := m 111 other_in.1
  have b := m 116 other_in.2
  simp only [List.mem_cons, List.not_mem_nil, or_false] at a b
  omega
theorem mk_other0 {z : Str} {n c : Nat} (h : n ≤ z.length) (hz : Stm z) : mkN z n c ≠ "other" := fun e => mk_other h hz (q := "") (fun d hd => nomatch hd) (by rw [e]; decide +kernel)
abbrev s_law_names : Stmt := top 28
theorem sc_law_names : FnScope ["bag", "many", "left", "found", "stem", "turn", "place", "one"] ["bag", "many"] (defScope s_law_names) := ⟨rfl, rfl, rfl, by decide +kernel, rfl, by decide +kernel, by decide +kernel⟩
theorem ok_names (D_law_take : DefD P w K mg base "_law_take" 1 ["bag", "many"] sdTake) (D_law_of : DefD P w K mg base "_law_of" 3 ["bag", "some"] sdOf) {f : Addr} {fd : FuncData} (G : Fun K "_law_names" "_law_names" s_law_names f fd) (T : TxtN mg) : FnOk P w K mg base (L2.CX P w) 5 f fd ["bag", "many"] (spOf K sdNames) := by
  refine okD G sc_law_names [0] (fun as Q E ⟨ys, m, e, _⟩ => by subst e; exact ⟨rfl, rfl⟩) ⟨_, fun cdv A outer s H E ad F0 H0 hr => (pds_cons (psd_par3 (i := 2) (j := 3) (l := 4) (oi := true) (oj := true) (ol := false) (pka_cons (pd_builtB (fun h => pe_callTy (call_listS (by rfl)) (by rfl) T.b_list (by decide +kernel) h) cn_listS (pda_cons (pd_const pe_str (fun _ => .str (by decide +kernel))) pda_nil)) (pka_cons (pd_lst (fun h => pe_lst h) pda_nil) (pka_cons (pd_const pe_str (fun _ => .str (by decide +kernel))) pka_nil))) (by show ¬ (2 ∈ ([0] : List Nat)); decide) (by show ¬ (3 ∈ ([0] : List Nat)); decide) (by show ¬ (4 ∈ ([0] : List Nat)); decide) (fun h => ps_par3 (i := 2) (j := 3) (l := 4) (by rfl) sc_law_names.nd rfl rfl rfl (by decide) (by decide) (by decide) rfl rfl rfl h (by rfl)) (by decide) (by decide) (by decide))
      (pds_cons (psd_for (passes_of rfl) rfl (pid_range1 (by rfl) T.b_range (pda_cons (pd_call D_law_take.ok (hr.mono (by decide)) (by rfl) D_law_take.mg D_law_take.kp D_law_take.b (takes_of rfl rfl rfl rfl) (pda_own (i := 0) (pv 0) (pda_cons (pd_const pe_int (fun _ => .int _)) pda_nil))) pda_nil)) (pgd_name (i := 5) (vs := [5]) (pg_name (i := 5) sc_law_names.nd rfl (.inl rfl)) (by show ¬ (5 ∈ ([0] : List Nat)); decide) (by decide))
      (pds_one (psd_set (i := 4) (pd_op op_add_str op2_addS (pd_var (pv 4)) (pd_call D_law_of.ok (hr.mono (by decide)) (by rfl) D_law_of.mg D_law_of.kp D_law_of.b (takes_of rfl rfl rfl rfl) (pda_own (i := 0) (pv 0) (pda_cons (pd_lst (fun h => pe_lst h) (pda_cons (pd_const pe_str (fun _ => .str (by decide +kernel))) (pda_cons (pd_const pe_str (fun _ => .str (by decide +kernel))) (pda_cons (pd_const pe_str (fun _ => .str (by decide +kernel))) (pda_cons (pd_const pe_str (fun _ => .str (by decide +kernel))) (pda_cons (pd_const pe_str (fun _ => .str (by decide +kernel))) pda_nil)))))) pda_nil)))) (by show ¬ (4 ∈ ([0] : List Nat)); decide) sc_law_names.nd rfl (.inl rfl))))
      (pds_cons (psd_set (i := 6) (pd_call D_law_take.ok (hr.mono (by decide)) (by rfl) D_law_take.mg D_law_take.kp D_law_take.b (takes_of rfl rfl rfl rfl) (pda_own (i := 0) (pv 0) (pda_cons (pd_op op_add (op2_I0 fun _ _ _ => .int _) (pd_builtB (fun h => pe_callB call_len_str (by rfl) T.b_len (by decide +kernel) h) cn_lenS.op (pda_cons (pd_var (pv 4)) pda_nil)) (pd_const pe_int (fun _ => .int _))) pda_nil))) (by show ¬ (6 ∈ ([0] : List Nat)); decide) sc_law_names.nd rfl (.inl rfl))
      (pds_cons (psd_for (passes_of rfl) rfl (pid_range1 (by rfl) T.b_range (pda_cons (pd_var (pv 1)) pda_nil)) (pgd_name (i := 5) (vs := [5]) (pg_name (i := 5) sc_law_names.nd rfl (.inl rfl)) (by show ¬ (5 ∈ ([0] : List Nat)); decide) (by decide))
      (pds_one (psd_expr (pd_methO (j := 3) (fun ho h => pe_bm PySem.F.plainAttrs_list PySem.F.slot_list_append PySem.F.type_list_append mt_append ho h) mo_append (pv 3) (pda_cons (pd_op op_add_str op2_addS (pd_op op_add_str op2_addS (pd_sliceS (pd_var (pv 4)) pod_none (pod_some (pd_var (pv 6)))) (pd_methO (j := 2) (fun ho h => pe_bm PySem.F.plainAttrs_list PySem.F.slot_list_pop PySem.F.type_list_pop mt_popAt ho h) mo_pop (pv 2) (pda_cons (pd_call D_law_take.ok (hr.mono (by decide)) (by rfl) D_law_take.mg D_law_take.kp D_law_take.b (takes_of rfl rfl rfl rfl) (pda_own (i := 0) (pv 0) (pda_cons (pd_builtO (i := 2) (fun h => pe_callB call_len_seq (by rfl) T.b_len (by decide +kernel) h) cn_len (pv 2)) pda_nil))) pda_nil))) (pd_sliceS (pd_var (pv 4)) (pod_some (pd_var (pv 6))) pod_none)) pda_nil)))))
      (pds_one (psd_ret (pd_ifExp (ptd_inLO_t (j := 3) (units65 hr) (pd_const pe_str (fun _ => .str (by decide +kernel))) (pv 3)) (pd_lc (own := [("one", 7)]) (by rfl) sc_law_names.nd (pid_list (pd_fvar (i := 3) (pv 3) (by show ¬ (3 ∈ ([0] : List Nat)); decide))) (blkOk_by (own := [("one", 7)]) (N := ["bag", "many", "left", "found", "stem", "turn", "place", "one"]) (sc := defScope s_law_names) (by decide +kernel)) (fun _ _ _ _ _ => (pgd_name (i := 7) (vs := [7]) (pg_name (i := 7) sc_law_names.nd rfl (.inl rfl)) (by show ¬ (7 ∈ ([0] : List Nat)); decide) (by decide))) (fun _ _ _ _ _ => ptsd_nil) (fun _ _ _ _ _ => (pd_op op_add_str op2_addS (pd_var (pv 7)) (pd_const pe_str (fun _ => .str (by decide +kernel))))) (by show ∀ i ∈ ([7] : List Nat), ¬ (i ∈ ([0] : List Nat)); decide)) (pd_fvar (i := 3) (pv 3) (by show ¬ (3 ∈ ([0] : List Nat)); decide))))))))), ?_⟩
  rintro as Qd Ed ⟨ys, kk, rfl, hb, k1, k5, k⟩
  refine DR.start (δ' := [some (.own (.lst ys)), some (.d (.int kk)), none, none, none, none, none, none]) rfl ?_
  with_reducible refine DR.cut (fun δ => δ = [some (.own (.lst ys)), some (.d (.int kk)), some (.own (.lst (abc.map sgD))), some (.own (.lst [])), some (.d (.str "")), none, none, none]) (fun N kN => ?_) ?_
  · walk_at "dd"
    refine ⟨by decide, ?_⟩
    walk_at "dd"
    exact ⟨_, _, _, rfl, kN _ rfl⟩
  rintro δ rfl
  with_reducible refine DR.cut (fun δ => ∃ (ys : List D) (z : Str) (p5 : Option DV), δ = [some (.own (.lst ys)), some (.d (.int kk)), some (.own (.lst (abc.map sgD))), some (.own (.lst [])), some (.d (.str z)), p5, none, none] ∧ Bg ys ∧ z.length ≤ 10 ∧ Stm z) (fun N kN => ?_) ?_
  · walk_at "dd"
    refine take hb (by decide) (by decide) fun r ys r0 r1 hb => ?_
    walk_at "dd"
    refine ⟨by omega, by omega, ?_⟩
    refine DR.for_inv (fun i δ => ∃ (ys : List D) (z : Str) (p5 : Option DV), δ = [some (.own (.lst ys)), some (.d (.int kk)), some (.own (.lst (abc.map sgD))), some (.own (.lst [])), some (.d (.str z)), p5, none, none] ∧ Bg ys ∧ z.length = i ∧ Stm z) ⟨ys, "", none, rfl, hb, rfl, fun c h => nomatch h⟩ ?_ ?_
    · rintro i x δ N hx ⟨ys, z, p5, rfl, hb, hz, hl⟩ kN
      obtain ⟨rfl, hi⟩ := upto_at hx
      walk_at "dd"
      refine ⟨by show 5 ≤ sizeLine; decide, ?_⟩
      walk_at "dd"
      refine ofs (gs := ["a", "z", "s", "h", "m"]) rfl hb (fun h => nomatch h) (by decide) fun g ys hg hb => ?_
      have hg := fiveS hg
      walk_at "dd"
      refine ⟨Nat.le_trans (show z.length + g.length ≤ 11 by omega) (by decide), ?_⟩
      walk_at "dd"
      exact kN _ ⟨ys, z ++ g, _, rfl, hb, by rw [str_len]; omega, stm_app hl hg.2⟩
    · rintro δ ⟨ys, z, p5, rfl, hb, hz, hl⟩
      rw [upto_len] at hz
      exact kN _ ⟨ys, z, p5, rfl, hb, by omega, hl⟩
  rintro δ ⟨ys, z, p5, rfl, hb, hz, hl⟩
  walk_at "dd"
  refine ⟨Nat.le_trans hz (by decide), ?_⟩
  walk_at "dd"
  refine take hb (m := ((z.length : Nat) : Int) + 1) (by omega) (by omega) fun r ys r0 r1 hb => ?_
  walk_at "dd"
  refine ⟨by omega, by omega, ?_⟩
  have hr : r.toNat ≤ z.length := by omega
  have er : ((r.toNat : Nat) : Int) = r := Int.toNat_of_nonneg r0
  refine DR.for_inv (fun i δ => ∃ (ys : List D) (cs ls : List Nat) (p5 : Option DV), δ = [some (.own (.lst ys)), some (.d (.int kk)), some (.own (.lst (ls.map sgD))), some (.own (.lst ((cs.map (mkN z r.toNat)).map .str))), some (.d (.str z)), p5, some (.d (.int r)), none] ∧ Bg ys ∧ cs.length = i ∧ (cs ++ ls).Perm abc) ⟨ys, [], abc, p5, rfl, hb, rfl, .refl _⟩ ?_ ?_
  · rintro i x δ N hx ⟨ys, cs, ls, p5, rfl, hb, hc, hp⟩ kN
    obtain ⟨rfl, hi⟩ := upto_at hx
    have hlen : ls.length + i = 26 := by
      have := hp.length_eq
      rw [List.length_append, show abc.length = 26 from by decide +kernel] at this
      omega
    walk_at "dd"
    have zl : z.length ≤ sizeLine := Nat.le_trans hz (by decide)
    refine ⟨zl, ?_⟩
    walk_at "dd"
    refine take hb (m := ((ls.map sgD).length : Nat)) (by rw [List.length_map]; omega) (by rw [List.length_map]; omega) fun q ys q0 q1 hb => ?_
    rw [List.length_map] at q1
    walk_at "dd"
    have hq : q.toNat < ls.length := by omega
    refine ⟨[_], _, rfl, rfl, q, q.toNat, sgD ls[q.toNat], rfl, by omega, by omega, six q0 (by rw [List.length_map]; exact q1), by rw [List.getElem?_map, List.getElem?_eq_getElem hq]; rfl, ?_⟩
    walk_at "dd"
    have l1 : (Txt.slice z none (some r)).length + 1 ≤ 12 := by
      have := mk_len (c := 0) hr
      unfold mkN at this
      rw [str_len, str_len, er] at this
      have o : (⟨#[0]⟩ : Str).length = 1 := rfl
      omega
    refine ⟨Nat.le_trans l1 (by decide), ?_⟩
    walk_at "dd"
    refine ⟨zl, ?_⟩
    walk_at "dd"
    have l2 : (Txt.slice z none (some r) ++ (⟨#[ls[q.toNat]]⟩ : Str)).length + (Txt.slice z (some r) none).length ≤ 12 := by
      have := mk_len (c := ls[q.toNat]) hr
      unfold mkN at this
      rw [str_len, er] at this
      omega
    refine ⟨Nat.le_trans l2 (by decide), ?_⟩
    walk_at "dd"
    refine ⟨[_], _, rfl, rfl, _, rfl, by rw [List.length_map, List.length_map]; exact Nat.lt_of_lt_of_le (show cs.length < 5 by omega) (by decide), ?_⟩
    refine kN _ ⟨ys, cs ++ [ls[q.toNat]], ls.eraseIdx q.toNat, some (.d (.int i)), ?_, hb, by rw [List.length_append, hc]; rfl, ?_⟩
    · rw [List.map_append, List.map_append, ← erase_map]
      have em : mkN z r.toNat ls[q.toNat] = Txt.slice z none (some r) ++ (⟨#[ls[q.toNat]]⟩ : Str) ++ Txt.slice z (some r) none := by unfold mkN; rw [er]
      show _ = [_, _, _, some (DV.own (OC.lst (_ ++ [D.str (mkN z r.toNat ls[q.toNat])]))), _, _, _, _]
      rw [em]
      rfl
    · refine .trans ?_ hp
      rw [List.append_assoc]
      exact .append_left _ (erase_perm hq)
  · rintro δ ⟨ys, cs, ls, p5, rfl, hb, hc, hp⟩
    rw [upto_len] at hc
    have hc : cs.length = kk := hc
    have hcs : ∀ c ∈ cs, 97 ≤ c ∧ c ≤ 122 := fun c h => abc_low c (hp.mem_iff.mp (List.mem_append_left _ h))
    have hnd : cs.Nodup := (List.nodup_append.mp (hp.nodup_iff.mpr abc_nd)).1
    have hfn : (cs.map (mkN z r.toNat)).Nodup := List.pairwise_map.mpr (hnd.imp fun h e => h (mk_inj hr e))
    walk_at "dd"
    refine ⟨dp_str.cmp, (dp_lst (dp_map fun r _ => dp_str)).cmp, _, rfl, ?_⟩
    rw [show ((pyL ((cs.map (mkN z r.toNat)).map D.str)).any fun z => PyData.eqv z (DV.d (D.str "cash")).toD.py) = decide (cash ∈ cs.map (mkN z r.toNat)) from any_str]
    have len : ∀ g ∈ cs.map (mkN z r.toNat), 1 ≤ g.length ∧ g.length ≤ 11 ∧ Low g := fun g hg => by
      obtain ⟨c, hc, rfl⟩ := List.mem_map.mp hg
      exact ⟨by rw [mk_len hr]; omega, by rw [mk_len hr]; omega, mk_low hr (stm_low hl) (hcs c hc)⟩
    rw [show (false != decide (cash ∈ cs.map (mkN z r.toNat))) = decide (cash ∈ cs.map (mkN z r.toNat)) by simp]
    refine DR.split (fun c => ?_) (fun c => ?_)
    · walk_at "dd"
      refine DR.lc_mapM (l := cs.map (mkN z r.toNat)) (r := D.str) (fun g => D.str (g ++ "q")) (fun g acc N hg hl3 kN => ?_) ?_
      · walk_at "dd"
        have hg := len g hg
        refine ⟨Nat.le_trans (show g.length + 1 ≤ 12 by omega) (by decide), ?_⟩
        walk_at "dd"
        exact ⟨Nat.lt_of_lt_of_le hl3 (by rw [List.length_map, hc]; exact Nat.le_trans k5 (by decide)), kN⟩
      have := (k ((cs.map (mkN z r.toNat)).map fun g => g ++ "q") ys ⟨List.pairwise_map.mpr (hfn.imp fun h e => h (q_inj e)), by rw [List.length_map, List.length_map, hc]; exact k1, by rw [List.length_map, List.length_map, hc]; exact k5, fun g hg => ?_⟩ (by rw [List.length_map, List.length_map, hc]) hb).1
      · walk_at "dd"
        rw [List.map_map] at this
        exact this
      · obtain ⟨a, ha, rfl⟩ := List.mem_map.mp hg
        have la := len a ha
        have lq : ("q" : Str).length = 1 := rfl
        exact ⟨q_ne, by rw [str_len]; omega, by rw [str_len]; omega, low_app la.2.2 low_q⟩
    · walk_at "dd"
      exact (k (cs.map (mkN z r.toNat)) ys ⟨hfn, by rw [List.length_map, hc]; exact k1, by rw [List.length_map, hc]; exact k5, fun g hg => ⟨fun e => c ((show g = cash from e) ▸ hg), (len g hg).1, Nat.le_succ_of_le (len g hg).2.1, (len g hg).2.2⟩⟩ (by rw [List.length_map, hc]) hb).2
end
end KT

set_option Elab.async false
set_option linter.all false
set_option maxRecDepth 100000
set_option maxHeartbeats 0
set_option pp.deepTerms false
set_option pp.deepTerms.threshold 8


namespace KT
open PySem PySem.Spec PyProof.Rows L2 DL
mutual
theorem eqv_self : ∀ d : PyData, d.hasDict = false → PyData.eqv d d = true
  | .none, _ => by simp [PyData.eqv]
  | .bool b, _ => by simp [PyData.eqv]
  | .int i, _ => by simp [PyData.eqv]
  | .str x, _ => by simp [PyData.eqv]
  | .list xs, h => by
    simp only [PyData.eqv]
    exact eqv_selfs xs (by simpa [PyData.hasDict] using h)
  | .tuple xs, h => by
    simp only [PyData.eqv]
    exact eqv_selfs xs (by simpa [PyData.hasDict] using h)
  | .dict _, h => by simp [PyData.hasDict] at h
theorem eqv_selfs : ∀ ds : List PyData, PyData.hasDictAll ds = false → PyData.eqvAll ds ds = true
  | [], _ => by simp [PyData.eqvAll]
  | d :: ds, h => by
    simp only [PyData.hasDictAll, Bool.or_eq_false_iff] at h
    simp only [PyData.eqvAll, eqv_self d h.1, eqv_selfs ds h.2, Bool.and_self]
end
/-- the same on both sides -/
theorem ne_self {d : D} {Q : D → Prop} (c : Cmp d) (k : Q (.bl false)) : eqP true d d Q := eqd_f (b := true) c c (eqv_self _ (noDict c.1)) k
abbrev rowL (m t : Str) (b : Bool) (n l : Int) : List D := [.str m, .str t, .str (side b), .int n, .int l]
abbrev rowO (o : Od) : List D := rowL o.m o.t o.b o.n o.l
theorem eq_self {d : D} {Q : D → Prop} (c : Cmp d) (k : Q (.bl true)) : eqP false d d Q := eqd_t (b := true) c c (eqv_self _ (noDict c.1)) k
theorem cmp_row {m t : Str} {b : Bool} {n l : Int} : Cmp (.lst (rowL m t b n l)) := (dp_lst (n := 2) (ds := rowL m t b n l) fun d hd => by
  simp only [List.mem_cons, List.not_mem_nil, or_false] at hd
  rcases hd with rfl | rfl | rfl | rfl | rfl
  · exact dp_str.le (by decide)
  · exact dp_str.le (by decide)
  · exact dp_str.le (by decide)
  · exact dp_int.le (by decide)
  · exact dp_int.le (by decide)).cmp
abbrev restD (r : Rw) : D := .lst [.int r.1, .str r.2.m, .str r.2.t, .str (side r.2.b), .int r.2.n, .int r.2.l]
section
variable {P : Program} {w : World} {K : PySem.W.Frag} {mg : Str → Option Value} {base : Heap} {C OB NO : Addr}
def sdFar : SpD := fun as Q _ => ∃ (ys : List D) (m : Int), as = [.own (.lst ys), .d (.int m)] ∧ Bg ys ∧ 0 ≤ m ∧ m ≤ 10 ^ 18 ∧ ∀ (r : Int) (ys : List D), 0 ≤ r → r ≤ m → Bg ys → Q (.d (.int r)) [.lst ys]
abbrev s_law_far : Stmt := top 29
theorem sc_law_far : FnScope ["bag", "most", "value"] ["bag", "most"] (defScope s_law_far) := ⟨rfl, rfl, rfl, by decide +kernel, rfl, by decide +kernel, by decide +kernel⟩
theorem ok_far (D_law_take : DefD P w K mg base "_law_take" 1 ["bag", "many"] sdTake) {f : Addr} {fd : FuncData} (G : Fun K "_law_far" "_law_far" s_law_far f fd) (T : TxtB mg) : FnOk P w K mg base (L2.CX P w) 3 f fd ["bag", "most"] (spOf K sdFar) := by
  refine okD G sc_law_far [0] (fun as Q E ⟨ys, m, e, _⟩ => by subst e; exact ⟨rfl, rfl⟩) ⟨_, fun cdv A outer s H E ad F0 H0 hr => (pds_cons (psd_set (i := 2) (pd_op op_add (op2_I0 fun _ _ _ => .int _) (pd_op op_add (op2_I0 fun _ _ _ => .int _) (pd_op op_mul (op2_I fun _ _ _ => .int _) (pd_call D_law_take.ok (hr.mono (by decide)) (by rfl) D_law_take.mg D_law_take.kp D_law_take.b (takes_of rfl rfl rfl rfl) (pda_own (i := 0) (pv 0) (pda_cons (pd_op op_pow (op2_I fun _ _ _ => .int _) (pd_const pe_int (fun _ => .int _)) (pd_const pe_int (fun _ => .int _))) pda_nil))) (pd_op op_pow (op2_I fun _ _ _ => .int _) (pd_const pe_int (fun _ => .int _)) (pd_const pe_int (fun _ => .int _)))) (pd_op op_mul (op2_I fun _ _ _ => .int _) (pd_call D_law_take.ok (hr.mono (by decide)) (by rfl) D_law_take.mg D_law_take.kp D_law_take.b (takes_of rfl rfl rfl rfl) (pda_own (i := 0) (pv 0) (pda_cons (pd_op op_pow (op2_I fun _ _ _ => .int _) (pd_const pe_int (fun _ => .int _)) (pd_const pe_int (fun _ => .int _))) pda_nil))) (pd_op op_pow (op2_I fun _ _ _ => .int _) (pd_const pe_int (fun _ => .int _)) (pd_const pe_int (fun _ => .int _))))) (pd_call D_law_take.ok (hr.mono (by decide)) (by rfl) D_law_take.mg D_law_take.kp D_law_take.b (takes_of rfl rfl rfl rfl) (pda_own (i := 0) (pv 0) (pda_cons (pd_op op_pow (op2_I fun _ _ _ => .int _) (pd_const pe_int (fun _ => .int _)) (pd_const pe_int (fun _ => .int _))) pda_nil)))) (by show ¬ (2 ∈ ([0] : List Nat)); decide) sc_law_far.nd rfl (.inl rfl))
      (pds_one (psd_ret (pd_op op_mod (op2_I fun _ _ _ => .int _) (pd_var (pv 2)) (pd_op op_add (op2_I0 fun _ _ _ => .int _) (pd_var (pv 1)) (pd_const pe_int (fun _ => .int _))))))), ?_⟩
  rintro as Qd Ed ⟨ys, m, rfl, hb, m0, m1, k⟩
  refine DR.start (δ' := [some (.own (.lst ys)), some (.d (.int m)), none]) rfl ?_
  have p6 : CPow 10 6 := ⟨by decide, by decide, by decide⟩
  walk_at "dd"
  refine ⟨p6, ?_⟩
  walk_at "dd"
  refine take hb (by decide) (by decide) fun r1 ys p1 q1 hb => ?_
  walk_at "dd"
  refine ⟨p6, ?_⟩
  walk_at "dd"
  refine take hb (by decide) (by decide) fun r2 ys p2 q2 hb => ?_
  walk_at "dd"
  refine ⟨p6, ?_⟩
  walk_at "dd"
  refine ⟨p6, ?_⟩
  walk_at "dd"
  refine take hb (by decide) (by decide) fun r3 ys p3 q3 hb => ?_
  walk_at "dd"
  refine k _ ys ?_ ?_ hb
  · exact Int.emod_nonneg _ (by omega)
  · have := Int.emod_lt_of_pos (r1 * 10 ^ (Int.toNat 12) + r2 * 10 ^ (Int.toNat 6) + r3) (show 0 < m + 1 by omega)
    exact Int.le_of_lt_add_one this
abbrev NOrd (P : Program) (w : World) (K : PySem.W.Frag) (mg : Str → Option Value) (base : Heap) (C : Addr) := DefN P w K mg base C 5 ["self", "member", "thing", "side", "count", "limit"] (sdOInit C)
def sdLOrder (C : Addr) : SpD := fun as Q _ => ∃ o : Od, as = [.d (.lst (rowO o))] ∧ OdOk o ∧ Q (.d (odD C o)) []
abbrev s_law_order : Stmt := top 30
theorem sc_law_order : FnScope ["row"] ["row"] (defScope s_law_order) := ⟨rfl, rfl, rfl, by decide +kernel, rfl, by decide +kernel, by decide +kernel⟩
theorem ok_lorder (D_Order___init : NOrd P w K mg base C) {f : Addr} {fd : FuncData} (G : Fun K "_law_order" "_law_order" s_law_order f fd) (T : TxtO K mg C) : FnOk P w K mg base (L2.CX P w) 7 f fd ["row"] (spOf K (sdLOrder C)) := by
  refine okD G sc_law_order [] (fun as Q E ⟨o, e, _⟩ => by subst e; exact ⟨rfl, rfl⟩) ⟨_, fun cdv A outer s H E ad F0 H0 hr => (pds_one (psd_ret (pd_make D_Order___init.made D_Order___init.ok (hr.mono (by decide)) (by rfl) T.c_Order D_Order___init.b (takes_of rfl rfl rfl rfl) (pda_cons (pd_ix ix_list op2_ixL (pd_var (pv 0)) (pd_const pe_int (fun _ => .int _)) (fun _ _ => rfl)) (pda_cons (pd_ix ix_list op2_ixL (pd_var (pv 0)) (pd_const pe_int (fun _ => .int _)) (fun _ _ => rfl)) (pda_cons (pd_ix ix_list op2_ixL (pd_var (pv 0)) (pd_const pe_int (fun _ => .int _)) (fun _ _ => rfl)) (pda_cons (pd_ix ix_list op2_ixL (pd_var (pv 0)) (pd_const pe_int (fun _ => .int _)) (fun _ _ => rfl)) (pda_cons (pd_ix ix_list op2_ixL (pd_var (pv 0)) (pd_const pe_int (fun _ => .int _)) (fun _ _ => rfl)) pda_nil)))))))), ?_⟩
  rintro as Qd Ed ⟨⟨m, t, b, n, l⟩, rfl, ho, k⟩
  refine DR.start (δ' := [some (.d (.lst (rowL m t b n l)))]) rfl ?_
  walk_at "dd"
  iterate 5 (refine ⟨_, _, .inl rfl, (by with_unfolding_all rfl), ?_⟩; walk_at "dd")
  refine ⟨m, t, b, n, l, rfl, ho, rfl, _, _, rfl, ?_⟩
  walk_at "dd"
  exact k
def NmL (xs : List Str) : Prop := xs ≠ [] ∧ xs.length < 1000 ∧ ∀ g ∈ xs, Nm g
def LmL (ls : List Int) : Prop := ls ≠ [] ∧ ls.length < 1000 ∧ ∀ l ∈ ls, -1000000000000 ≤ l ∧ l ≤ 1000000000000
def sdLRow : SpD := fun as Q _ => ∃ (ys : List D) (ms ts : List Str) (ls : List Int), as = [.own (.lst ys), .d (.lst (ms.map .str)), .d (.lst (ts.map .str)), .d (.lst (ls.map .int))] ∧ Bg ys ∧ NmL ms ∧ NmL ts ∧ LmL ls ∧ ∀ (m t : Str) (b : Bool) (n l : Int) (ys : List D), OdOk ⟨m, t, b, n, l⟩ → Bg ys → Q (.own (.lst (rowL m t b n l))) [.lst ys]
abbrev s_law_row : Stmt := top 31
theorem sc_law_row : FnScope ["bag", "members", "things", "limits", "count", "side"] ["bag", "members", "things", "limits"] (defScope s_law_row) := ⟨rfl, rfl, rfl, by decide +kernel, rfl, by decide +kernel, by decide +kernel⟩
theorem ok_lrow (D_law_take : DefD P w K mg base "_law_take" 1 ["bag", "many"] sdTake) (D_law_of : DefD P w K mg base "_law_of" 3 ["bag", "some"] sdOf) {f : Addr} {fd : FuncData} (G : Fun K "_law_row" "_law_row" s_law_row f fd) (T : TxtB mg) : FnOk P w K mg base (L2.CX P w) 5 f fd ["bag", "members", "things", "limits"] (spOf K sdLRow) := by
  refine okD G sc_law_row [0] (fun as Q E ⟨ys, ms, ts, ls, e, _⟩ => by subst e; exact ⟨rfl, rfl⟩) ⟨_, fun cdv A outer s H E ad F0 H0 hr => (pds_cons (psd_set (i := 4) (pd_call D_law_of.ok (hr.mono (by decide)) (by rfl) D_law_of.mg D_law_of.kp D_law_of.b (takes_of rfl rfl rfl rfl) (pda_own (i := 0) (pv 0) (pda_cons (pd_lst (fun h => pe_lst h) (pda_cons (pd_const pe_int (fun _ => .int _)) (pda_cons (pd_const pe_int (fun _ => .int _)) (pda_cons (pd_const pe_int (fun _ => .int _)) (pda_cons (pd_const pe_int (fun _ => .int _)) (pda_cons (pd_const pe_int (fun _ => .int _)) (pda_cons (pd_const pe_int (fun _ => .int _)) (pda_cons (pd_const pe_int (fun _ => .int _)) (pda_cons (pd_const pe_int (fun _ => .int _)) pda_nil))))))))) pda_nil))) (by show ¬ (4 ∈ ([0] : List Nat)); decide) sc_law_row.nd rfl (.inl rfl))
      (pds_cons (psd_if (ptd_cmp op_eq op2_eq.op (pd_call D_law_take.ok (hr.mono (by decide)) (by rfl) D_law_take.mg D_law_take.kp D_law_take.b (takes_of rfl rfl rfl rfl) (pda_own (i := 0) (pv 0) (pda_cons (pd_const pe_int (fun _ => .int _)) pda_nil))) (pd_const pe_int (fun _ => .int _)) (nomark _)) (pds_one (psd_set (i := 4) (pd_call D_law_of.ok (hr.mono (by decide)) (by rfl) D_law_of.mg D_law_of.kp D_law_of.b (takes_of rfl rfl rfl rfl) (pda_own (i := 0) (pv 0) (pda_cons (pd_lst (fun h => pe_lst h) (pda_cons (pd_op op_pow (op2_I fun _ _ _ => .int _) (pd_const pe_int (fun _ => .int _)) (pd_const pe_int (fun _ => .int _))) (pda_cons (pd_op op_add (op2_I0 fun _ _ _ => .int _) (pd_const pe_int (fun _ => .int _)) (pd_call D_law_take.ok (hr.mono (by decide)) (by rfl) D_law_take.mg D_law_take.kp D_law_take.b (takes_of rfl rfl rfl rfl) (pda_own (i := 0) (pv 0) (pda_cons (pd_op op_pow (op2_I fun _ _ _ => .int _) (pd_const pe_int (fun _ => .int _)) (pd_const pe_int (fun _ => .int _))) pda_nil)))) pda_nil))) pda_nil))) (by show ¬ (4 ∈ ([0] : List Nat)); decide) sc_law_row.nd rfl (.inl rfl))) pds_nil)
      (pds_cons (psd_set (i := 5) (pd_call D_law_of.ok (hr.mono (by decide)) (by rfl) D_law_of.mg D_law_of.kp D_law_of.b (takes_of rfl rfl rfl rfl) (pda_own (i := 0) (pv 0) (pda_cons (pd_lst (fun h => pe_lst h) (pda_cons (pd_const pe_str (fun _ => .str (by decide +kernel))) (pda_cons (pd_const pe_str (fun _ => .str (by decide +kernel))) pda_nil))) pda_nil))) (by show ¬ (5 ∈ ([0] : List Nat)); decide) sc_law_row.nd rfl (.inl rfl))
      (pds_one (psd_ret (pd_lst (fun h => pe_lst h) (pda_cons (pd_call D_law_of.ok (hr.mono (by decide)) (by rfl) D_law_of.mg D_law_of.kp D_law_of.b (takes_of rfl rfl rfl rfl) (pda_own (i := 0) (pv 0) (pda_cons (pd_var (pv 1)) pda_nil))) (pda_cons (pd_call D_law_of.ok (hr.mono (by decide)) (by rfl) D_law_of.mg D_law_of.kp D_law_of.b (takes_of rfl rfl rfl rfl) (pda_own (i := 0) (pv 0) (pda_cons (pd_var (pv 2)) pda_nil))) (pda_cons (pd_var (pv 5)) (pda_cons (pd_var (pv 4)) (pda_cons (pd_call D_law_of.ok (hr.mono (by decide)) (by rfl) D_law_of.mg D_law_of.kp D_law_of.b (takes_of rfl rfl rfl rfl) (pda_own (i := 0) (pv 0) (pda_cons (pd_var (pv 3)) pda_nil))) pda_nil))))))))))), ?_⟩
  rintro as Qd Ed ⟨ys, ms, ts, ls, rfl, hb, hm, ht, hl, k⟩
  refine DR.start (δ' := [some (.own (.lst ys)), some (.d (.lst (ms.map .str))), some (.d (.lst (ts.map .str))), some (.d (.lst (ls.map .int))), none, none]) rfl ?_
  have p6 : CPow 10 6 := ⟨by decide, by decide, by decide⟩
  have e6 : (10 : Int) ^ Int.toNat 6 = 1000000 := by decide
  with_reducible refine DR.cut (fun δ => ∃ (ys : List D) (n : Int), Bg ys ∧ 1 ≤ n ∧ n ≤ 1000000 ∧ δ = [some (.own (.lst ys)), some (.d (.lst (ms.map .str))), some (.d (.lst (ts.map .str))), some (.d (.lst (ls.map .int))), some (.d (.int n)), none]) (fun N kN => ?_) ?_
  · walk_at "dd"
    refine ⟨[_, _, _, _, _, _, _, _], rfl, by show 8 ≤ sizeLine; decide, ?_⟩
    walk_at "dd"
    refine ofi (js := [1, 1, 1, 2, 2, 3, 8, 9]) rfl hb (fun h => nomatch h) (by show 8 < 1000; decide) fun n ys hn hb => ?_
    have hn1 : 1 ≤ n ∧ n ≤ 1000000 := by
      simp only [List.mem_cons, List.not_mem_nil, or_false] at hn
      omega
    walk_at "dd"
    exact kN _ ⟨ys, n, hb, hn1.1, hn1.2, rfl⟩
  rintro δ ⟨ys, n, hb, hn0, hn1, rfl⟩
  with_reducible refine DR.cut (fun δ => ∃ (ys : List D) (n : Int), Bg ys ∧ 1 ≤ n ∧ n ≤ 1000000 ∧ δ = [some (.own (.lst ys)), some (.d (.lst (ms.map .str))), some (.d (.lst (ts.map .str))), some (.d (.lst (ls.map .int))), some (.d (.int n)), none]) (fun N kN => ?_) ?_
  · walk_at "dd"
    refine take hb (by decide) (by decide) fun r0 ys p0 q0 hb => ?_
    walk_at "dd"
    refine DR.split (fun c => ?_) (fun c => ?_)
    · walk_at "dd"
      refine ⟨p6, ?_⟩
      walk_at "dd"
      refine ⟨p6, ?_⟩
      walk_at "dd"
      refine take hb (by decide) (by decide) fun r ys p1 q1 hb => ?_
      walk_at "dd"
      refine ofi (js := [10 ^ Int.toNat 6, 1 + r]) rfl hb (fun h => nomatch h) (by show 2 < 1000; decide) fun n ys hn hb => ?_
      have hn1 : 1 ≤ n ∧ n ≤ 1000000 := by
        simp only [List.mem_cons, List.not_mem_nil, or_false] at hn
        rw [e6] at hn q1
        omega
      walk_at "dd"
      exact kN _ ⟨ys, n, hb, hn1.1, hn1.2, rfl⟩
    · walk_at "dd"
      exact kN _ ⟨ys, n, hb, hn0, hn1, rfl⟩
  rintro δ ⟨ys, n, hb, hn0, hn1, rfl⟩
  walk_at "dd"
  refine ofs (gs := ["buy", "sell"]) rfl hb (fun h => nomatch h) (by decide) fun g ys hg hb => ?_
  obtain ⟨b, rfl⟩ : ∃ b : Bool, g = side b := by
    simp only [List.mem_cons, List.not_mem_nil, or_false] at hg
    rcases hg with rfl | rfl
    · exact ⟨true, rfl⟩
    · exact ⟨false, rfl⟩
  walk_at "dd"
  refine ofs (gs := ms) rfl hb hm.1 hm.2.1 fun m ys hmm hb => ?_
  walk_at "dd"
  refine ofs (gs := ts) rfl hb ht.1 ht.2.1 fun t ys htm hb => ?_
  walk_at "dd"
  refine ofi (js := ls) rfl hb hl.1 hl.2.1 fun l ys hlm hb => ?_
  walk_at "dd"
  refine ⟨by show 5 ≤ sizeLine; decide, ?_⟩
  walk_at "dd"
  have hll := hl.2.2 l hlm
  exact k m t b n l ys ⟨hm.2.2 m hmm, ht.2.2 t htm, hn0, hn1, hll.1, hll.2⟩ hb
def sdLims : SpD := fun as Q _ => ∃ (ys : List D), as = [.own (.lst ys)] ∧ Bg ys ∧ ∀ (ls : List Int) (ys : List D), LmL ls → Bg ys → Q (.own (.lst (ls.map .int))) [.lst ys]
abbrev s_law_limits : Stmt := top 32
theorem sc_law_limits : FnScope ["bag", "base", "step"] ["bag"] (defScope s_law_limits) := ⟨rfl, rfl, rfl, by decide +kernel, rfl, by decide +kernel, by decide +kernel⟩
theorem ok_lims (D_law_take : DefD P w K mg base "_law_take" 1 ["bag", "many"] sdTake) (D_law_of : DefD P w K mg base "_law_of" 3 ["bag", "some"] sdOf) (D_law_far : DefD P w K mg base "_law_far" 3 ["bag", "most"] sdFar) {f : Addr} {fd : FuncData} (G : Fun K "_law_limits" "_law_limits" s_law_limits f fd) (T : TxtB mg) : FnOk P w K mg base (L2.CX P w) 5 f fd ["bag"] (spOf K sdLims) := by
  refine okD G sc_law_limits [0] (fun as Q E ⟨ys, e, _⟩ => by subst e; exact ⟨rfl, rfl⟩) ⟨_, fun cdv A outer s H E ad F0 H0 hr => (pds_cons (psd_set (i := 1) (pd_call D_law_of.ok (hr.mono (by decide)) (by rfl) D_law_of.mg D_law_of.kp D_law_of.b (takes_of rfl rfl rfl rfl) (pda_own (i := 0) (pv 0) (pda_cons (pd_lst (fun h => pe_lst h) (pda_cons (pd_const pe_int (fun _ => .int _)) (pda_cons (pd_neg (pd_const pe_int (fun _ => .int _))) (pda_cons (pd_const pe_int (fun _ => .int _)) (pda_cons (pd_op op_pow (op2_I fun _ _ _ => .int _) (pd_const pe_int (fun _ => .int _)) (pd_const pe_int (fun _ => .int _))) (pda_cons (pd_op op_add (op2_I0 fun _ _ _ => .int _) (pd_neg (pd_op op_pow (op2_I fun _ _ _ => .int _) (pd_const pe_int (fun _ => .int _)) (pd_const pe_int (fun _ => .int _)))) (pd_const pe_int (fun _ => .int _))) (pda_cons (pd_call D_law_far.ok (hr.mono (by decide)) (by rfl) D_law_far.mg D_law_far.kp D_law_far.b (takes_of rfl rfl rfl rfl) (pda_own (i := 0) (pv 0) (pda_cons (pd_op op_pow (op2_I fun _ _ _ => .int _) (pd_const pe_int (fun _ => .int _)) (pd_const pe_int (fun _ => .int _))) pda_nil))) (pda_cons (pd_op op_add (op2_I0 fun _ _ _ => .int _) (pd_neg (pd_call D_law_far.ok (hr.mono (by decide)) (by rfl) D_law_far.mg D_law_far.kp D_law_far.b (takes_of rfl rfl rfl rfl) (pda_own (i := 0) (pv 0) (pda_cons (pd_op op_pow (op2_I fun _ _ _ => .int _) (pd_const pe_int (fun _ => .int _)) (pd_const pe_int (fun _ => .int _))) pda_nil)))) (pd_const pe_int (fun _ => .int _))) pda_nil)))))))) pda_nil))) (by show ¬ (1 ∈ ([0] : List Nat)); decide) sc_law_limits.nd rfl (.inr rfl))
      (pds_one (psd_ret (pd_lc (own := [("step", 2)]) (by rfl) sc_law_limits.nd (pid_range1 (by rfl) T.b_range (pda_cons (pd_op op_add (op2_I0 fun _ _ _ => .int _) (pd_const pe_int (fun _ => .int _)) (pd_call D_law_take.ok (hr.mono (by decide)) (by rfl) D_law_take.mg D_law_take.kp D_law_take.b (takes_of rfl rfl rfl rfl) (pda_own (i := 0) (pv 0) (pda_cons (pd_const pe_int (fun _ => .int _)) pda_nil)))) pda_nil)) (blkOk_by (own := [("step", 2)]) (N := ["bag", "base", "step"]) (sc := defScope s_law_limits) (by decide +kernel)) (fun _ _ _ _ _ => (pgd_name (i := 2) (vs := [2]) (pg_name (i := 2) sc_law_limits.nd rfl (.inl rfl)) (by show ¬ (2 ∈ ([0] : List Nat)); decide) (by decide))) (fun _ _ _ _ _ => ptsd_nil) (fun _ _ _ _ _ => (pd_op op_sub (op2_I0 fun _ _ _ => .int _) (pd_var (pv 1)) (pd_var (pv 2)))) (by show ∀ i ∈ ([2] : List Nat), ¬ (i ∈ ([0] : List Nat)); decide))))), ?_⟩
  rintro as Qd Ed ⟨ys, rfl, hb, k⟩
  refine DR.start (δ' := [some (.own (.lst ys)), none, none]) rfl ?_
  have p12 : CPow 10 12 := ⟨by decide, by decide, by decide⟩
  walk_at "dd"
  refine ⟨ys, 10 ^ Int.toNat 12, rfl, hb, by decide, by decide, fun r ys r0 r1 hb => ?_⟩
  walk_at "dd"
  refine ⟨ys, 10 ^ Int.toNat 12, rfl, hb, by decide, by decide, fun q ys q0 q1 hb => ?_⟩
  walk_at "dd"
  refine ⟨[_, _, _, _, _, _, _], rfl, by show 7 ≤ sizeLine; decide, ?_⟩
  walk_at "dd"
  refine ofi (js := [0, -1, 3, 10 ^ Int.toNat 12, -10 ^ Int.toNat 12 + 3, r, -q + 3]) rfl hb (fun h => nomatch h) (by show 7 < 1000; decide) fun v ys hv hb => ?_
  have hv1 : -999999999997 ≤ v ∧ v ≤ 1000000000000 := by
    simp only [List.mem_cons, List.not_mem_nil, or_false] at hv
    have e : (10 : Int) ^ Int.toNat 12 = 1000000000000 := by decide
    rw [e] at hv r1 q1
    omega
  walk_at "dd"
  refine take hb (by decide) (by decide) fun a ys a0 a1 hb => ?_
  walk_at "dd"
  refine ⟨by omega, by omega, ?_⟩
  have ha : (2 + a).toNat ≤ 4 := by omega
  have ha2 : 2 ≤ (2 + a).toNat := by omega
  unfold upto
  refine DR.lc_mapM (l := List.range (2 + a).toNat) (fun k => D.int (v - (0 + (k : Int)))) (fun x acc N hx hlt kN => ?_) ?_
  · walk_at "dd"
    rw [List.length_range] at hlt
    exact ⟨Nat.lt_of_lt_of_le (show acc.length < 4 by omega) (by decide), kN⟩
  have e : (List.range (2 + a).toNat).map (fun k : Nat => D.int (v - (0 + (k : Int)))) = ((List.range (2 + a).toNat).map fun k : Nat => v - (0 + (k : Int))).map D.int := by rw [List.map_map]; rfl
  rw [e]
  walk_at "dd"
  refine k _ ys ⟨fun h => ?_, ?_, fun l hl => ?_⟩ hb
  · have := congrArg List.length h
    rw [List.length_map, List.length_range] at this
    have this : (2 + a).toNat = 0 := this
    omega
  · rw [List.length_map, List.length_range]; omega
  · obtain ⟨k, hk, rfl⟩ := List.mem_map.mp hl
    have := List.mem_range.mp hk
    omega
end
end KT

set_option Elab.async false
set_option linter.all false
set_option maxRecDepth 100000
set_option maxHeartbeats 0
set_option pp.deepTerms false
set_option pp.deepTerms.threshold 8


namespace KT
open PySem PySem.Spec PyProof.Rows L2 DL
/-- a row as the law keeps it: a number and the five arguments -/
abbrev rowN (r : Rw) : D := .lst [.int r.1, .lst (rowO r.2)]
abbrev rowsN (rs : List Rw) : D := .lst (rs.map rowN)
section
variable {P : Program} {w : World} {K : PySem.W.Frag} {mg : Str → Option Value} {base : Heap} {C OB NO : Addr}
def sdPlain (C : Addr) : SpD := fun as Q _ => ∃ (rs : List Rw), (as = [.d (.lst (rs.map (rwD C)))] ∨ as = [.d (.tup (rs.map (rwD C)))]) ∧ rs.length ≤ 1000 ∧ Q (.own (.lst (rs.map rowN))) []
abbrev s_law_plain : Stmt := top 35
theorem sc_law_plain : FnScope ["pairs", "found", "number", "order"] ["pairs"] (defScope s_law_plain) := ⟨rfl, rfl, rfl, by decide +kernel, rfl, by decide +kernel, by decide +kernel⟩
theorem ok_plain {f : Addr} {fd : FuncData} (G : Fun K "_law_plain" "_law_plain" s_law_plain f fd) (T : TxtO K mg C) : FnOk P w K mg base (L2.CX P w) 1 f fd ["pairs"] (spOf K (sdPlain C)) := by
  refine okD G sc_law_plain [] (fun as Q E ⟨rs, e, _⟩ => by rcases e with e | e <;> (subst e; exact ⟨rfl, rfl⟩)) ⟨_, fun cdv A outer s H E ad F0 H0 hr => (pds_cons (psd_setO (i := 1) (pd_lst (fun h => pe_lst h) pda_nil) (by show ¬ (1 ∈ ([] : List Nat)); decide) sc_law_plain.nd rfl (.inl rfl))
      (pds_cons (psd_for (passes_of rfl) rfl (pid_seq (pd_var (pv 0))) (pgd_tup (is := [2, 3]) (vs := [2, 3]) (pg_tup rfl (pgs_cons (pg_name (i := 2) sc_law_plain.nd rfl (.inl rfl)) (pgs_cons (pg_name (i := 3) sc_law_plain.nd rfl (.inl rfl)) pgs_nil))) rfl (by show ∀ i ∈ ([2, 3] : List Nat), ¬ (i ∈ ([] : List Nat)) ∧ i ∈ ([2, 3] : List Nat); decide))
      (pds_cons (psd_if (PW.pt (pwd_or (ptd_not (ptd_val (pd_builtB (fun h => pe_callB call_isi (by rfl) T.b_isinstance (by decide +kernel) h) (cn_isi (K := K)).op (pda_cons (pd_var (pv 3)) (pda_cons (pd_const (pe_glob (v := .ref C) rfl T.c_Order rfl) (fun _ => .adr _)) pda_nil))) (fun h => pt_val h))) (pwd_or (ptd_not (ptd_val (pd_builtB (fun h => pe_callB call_isi (by rfl) T.b_isinstance (by decide +kernel) h) (cn_isi (K := K)).op (pda_cons (pd_var (pv 2)) (pda_cons (pd_const (pe_bltn (v := .ty "int") (by rfl) T.b_int (by decide +kernel) rfl) (fun _ => .ty _)) pda_nil))) (fun h => pt_val h))) (pwd_or1 (ptd_val (pd_builtB (fun h => pe_callB call_isi (by rfl) T.b_isinstance (by decide +kernel) h) (cn_isi (K := K)).op (pda_cons (pd_var (pv 2)) (pda_cons (pd_const (pe_bltn (v := .ty "bool") (by rfl) T.b_bool (by decide +kernel) rfl) (fun _ => .ty _)) pda_nil))) (fun h => pt_val h)))))) (pds_one (psd_ret (pd_const pe_non (fun _ => .non)))) pds_nil)
      (pds_one (psd_expr (pd_methO (j := 1) (fun ho h => pe_bm PySem.F.plainAttrs_list PySem.F.slot_list_append PySem.F.type_list_append mt_append ho h) mo_append (pv 1) (pda_cons (pd_lst (fun h => pe_lst h) (pda_cons (pd_var (pv 2)) (pda_cons (pd_lst (fun h => pe_lst h) (pda_cons (pd_fld (pd_var (pv 3)) T.cl_Order (T.na_Order _ (by decide)) rfl) (pda_cons (pd_fld (pd_var (pv 3)) T.cl_Order (T.na_Order _ (by decide)) rfl) (pda_cons (pd_fld (pd_var (pv 3)) T.cl_Order (T.na_Order _ (by decide)) rfl) (pda_cons (pd_fld (pd_var (pv 3)) T.cl_Order (T.na_Order _ (by decide)) rfl) (pda_cons (pd_fld (pd_var (pv 3)) T.cl_Order (T.na_Order _ (by decide)) rfl) pda_nil)))))) pda_nil))) pda_nil))))))
      (pds_one (psd_ret (pd_mvar (pv 1) (by show ¬ (1 ∈ ([] : List Nat)); decide)))))), ?_⟩
  rintro as Qd Ed ⟨rs, e, hl, k⟩
  rcases e with rfl | rfl
  · refine DR.start (δ' := [some (.d (.lst (rs.map (rwD C)))), none, none, none]) rfl ?_
    walk_at "dd"
    refine DR.seqL ?_
    walk_at "dd"
    refine DR.for_inv (fun i δ => ∃ p2 p3, δ = [some (.d (.lst (rs.map (rwD C)))), some (.own (.lst ((rs.take i).map rowN))), p2, p3]) ⟨none, none, rfl⟩ ?_ ?_
    · rintro i x δ N hx ⟨p2, p3, rfl⟩ kN
      obtain ⟨r, hri, rfl⟩ := DR.map_at hx
      have hi : i < rs.length := DR.at_lt hri
      have ht : (rs.take (i + 1)).map rowN = (rs.take i).map rowN ++ [rowN r] := by rw [List.take_add_one, hri, List.map_append]; rfl
      have hfl : (rs.take i).length ≤ 1000 := by rw [List.length_take]; omega
      walk_at "dd"
      refine ⟨_, _, _, _, true, rfl, .own _, .obj T.cl_Order T.si_Order, kit_own, ?_⟩
      walk_at "dd"
      refine ⟨_, _, _, _, true, rfl, .ty _, .int _, kit_self, ?_⟩
      walk_at "dd"
      refine ⟨_, _, _, _, false, rfl, .ty _, .int _, by rfl, ?_⟩
      walk_at "dd"
      refine ⟨by show 5 ≤ sizeLine; decide, ?_⟩
      walk_at "dd"
      refine ⟨[_], _, rfl, rfl, _, rfl, by rw [List.length_map]; exact Nat.lt_of_le_of_lt hfl (by decide), ?_⟩
      walk_at "dd"
      exact kN _ ⟨_, _, by rw [ht]; rfl⟩
    · rintro δ ⟨p2, p3, rfl⟩
      rw [List.length_map, List.take_length]
      walk_at "dd"
      exact k
  · refine DR.start (δ' := [some (.d (.tup (rs.map (rwD C)))), none, none, none]) rfl ?_
    walk_at "dd"
    refine DR.seqT ?_
    walk_at "dd"
    refine DR.for_inv (fun i δ => ∃ p2 p3, δ = [some (.d (.tup (rs.map (rwD C)))), some (.own (.lst ((rs.take i).map rowN))), p2, p3]) ⟨none, none, rfl⟩ ?_ ?_
    · rintro i x δ N hx ⟨p2, p3, rfl⟩ kN
      obtain ⟨r, hri, rfl⟩ := DR.map_at hx
      have hi : i < rs.length := DR.at_lt hri
      have ht : (rs.take (i + 1)).map rowN = (rs.take i).map rowN ++ [rowN r] := by rw [List.take_add_one, hri, List.map_append]; rfl
      have hfl : (rs.take i).length ≤ 1000 := by rw [List.length_take]; omega
      walk_at "dd"
      refine ⟨_, _, _, _, true, rfl, .own _, .obj T.cl_Order T.si_Order, kit_own, ?_⟩
      walk_at "dd"
      refine ⟨_, _, _, _, true, rfl, .ty _, .int _, kit_self, ?_⟩
      walk_at "dd"
      refine ⟨_, _, _, _, false, rfl, .ty _, .int _, by rfl, ?_⟩
      walk_at "dd"
      refine ⟨by show 5 ≤ sizeLine; decide, ?_⟩
      walk_at "dd"
      refine ⟨[_], _, rfl, rfl, _, rfl, by rw [List.length_map]; exact Nat.lt_of_le_of_lt hfl (by decide), ?_⟩
      walk_at "dd"
      exact kN _ ⟨_, _, by rw [ht]; rfl⟩
    · rintro δ ⟨p2, p3, rfl⟩
      rw [List.length_map, List.take_length]
      walk_at "dd"
      exact k
end
end KT

set_option Elab.async false
set_option linter.all false
set_option maxRecDepth 100000
set_option maxHeartbeats 0
set_option pp.deepTerms false
set_option pp.deepTerms.threshold 8


namespace KT
open PySem PySem.Spec PyProof.Rows L2 DL
/-! the row that an order is filled against next -/
def stB (p : Od) (acc : Option (Nat × Rw)) (x : Rw × Nat) : Option (Nat × Rw) := if meetB x.1.2 p = true then (match acc with
  | none => some (x.2, x.1)
  | some q => if sgn p.b * x.1.2.l < sgn p.b * q.2.2.l then some (x.2, x.1) else some q) else acc
def bst (p : Od) (rs : List Rw) : Option (Nat × Rw) := rs.zipIdx.foldl (stB p) none
def bD : Option (Nat × Rw) → D
  | none => .non
  | some q => .int (q.1 : Int)
theorem bst_take {p : Od} {rs : List Rw} {i : Nat} {r : Rw} (h : rs[i]? = some r) : bst p (rs.take (i + 1)) = stB p (bst p (rs.take i)) (r, i) := by
  have hl : (rs.take i).length = i := by rw [List.length_take]; exact Nat.min_eq_left (Nat.le_of_lt (DR.at_lt h))
  unfold bst
  rw [List.take_add_one, h, List.zipIdx_append, List.foldl_append, hl]
  show stB p _ (r, 0 + i) = _
  rw [Nat.zero_add]
theorem fold_at {p : Od} {rs : List Rw} : ∀ {l : List (Rw × Nat)} {acc : Option (Nat × Rw)}, (∀ x ∈ l, rs[x.2]? = some x.1 ) → (∀ q, acc = some q → rs[q.1]? = some q.2 ∧ meetB q.2.2 p = true) → ∀ q, l.foldl (stB p) acc = some q → rs[q.1]? = some q.2 ∧ meetB q.2.2 p = true
  | [], _, _, h, q, e => h q e
  | x :: l, acc, hl, h, q, e => by
    refine fold_at (l := l) (acc := stB p acc x) (fun y hy => hl y (List.mem_cons_of_mem _ hy)) (fun z ez => ?_) q e
    have hx := hl x List.mem_cons_self
    unfold stB at ez
    split at ez
    · rename_i hm
      cases acc with
      | none => cases ez; exact ⟨hx, hm⟩
      | some w =>
        have ez : (if sgn p.b * x.1.2.l < sgn p.b * w.2.2.l then some (x.2, x.1) else some w) = some z := ez
        split at ez
        · cases ez; exact ⟨hx, hm⟩
        · cases ez; exact h _ rfl
    · exact h z ez
theorem zi_mem {α : Type} {l : List α} {x : α × Nat} (h : x ∈ l.zipIdx) : l[x.2]? = some x.1 := by
  obtain ⟨a, i⟩ := x
  exact List.mem_zipIdx_iff_getElem?.mp h
theorem bst_at {p : Od} {rs : List Rw} {q : Nat × Rw} (h : bst p rs = some q) : rs[q.1]? = some q.2 ∧ meetB q.2.2 p = true := fold_at (fun x hx => zi_mem hx) (fun q e => by cases e) q h
theorem take_at {α : Type} {l : List α} {i k : Nat} {x : α} (h : (l.take i)[k]? = some x) : l[k]? = some x := by
  rw [List.getElem?_take] at h
  split at h
  · exact h
  · cases h
theorem meet_m {r p : Od} (h : r.m = p.m) : meetB r p = false := by
  unfold meetB
  rw [decide_eq_true h]
  rfl
theorem meet_t {r p : Od} (h : r.t ≠ p.t) : meetB r p = false := by
  unfold meetB
  rw [decide_eq_false h, Bool.not_false, Bool.true_or, Bool.or_true]
  rfl
theorem side_ne {a b : Bool} (h : side a = side b) : a = b := by
  cases a <;> cases b <;> first | rfl | (exact absurd h (by decide))
theorem meet_b {r p : Od} (h : side r.b = side p.b) : meetB r p = false := by
  unfold meetB
  rw [decide_eq_true (side_ne h), Bool.or_true, Bool.or_true]
  rfl
theorem sgn_ne {a b : Bool} (h : ¬ side a = side b) : sgn a = - sgn b := by
  cases a <;> cases b <;> first | rfl | exact absurd rfl h
theorem meet_l {r p : Od} (h1 : ¬ r.m = p.m) (h2 : r.t = p.t) (h3 : ¬ side r.b = side p.b) : meetB r p = decide (¬ sgn p.b * r.l > sgn p.b * p.l) := by
  unfold meetB
  have hs := sgn_ne h3
  rw [decide_eq_false h1, decide_eq_true h2, decide_eq_false fun e => h3 (congrArg side e), hs]
  show decide _ = decide _
  refine decide_eq_decide.mpr ?_
  rw [Int.neg_mul]
  omega
section
variable {P : Program} {w : World} {K : PySem.W.Frag} {mg : Str → Option Value} {base : Heap} {C OB NO : Addr}
def sdFirst : SpD := fun as Q _ => ∃ (rs : List Rw) (p : Od), as = [.d (rowsN rs), .d (.lst (rowO p))] ∧ rs.length ≤ 1000 ∧ Q (.d (bD (bst p rs))) []
abbrev s_law_first : Stmt := top 33
theorem sc_law_first : FnScope ["rows", "row", "best", "place", "other", "sign"] ["rows", "row"] (defScope s_law_first) := ⟨rfl, rfl, rfl, by decide +kernel, rfl, by decide +kernel, by decide +kernel⟩
theorem ok_first {f : Addr} {fd : FuncData} (G : Fun K "_law_first" "_law_first" s_law_first f fd) (T : TxtO K mg C) : FnOk P w K mg base (L2.CX P w) 1 f fd ["rows", "row"] (spOf K sdFirst) := by
  refine okD G sc_law_first [] (fun as Q E ⟨rs, p, e, _⟩ => by subst e; exact ⟨rfl, rfl⟩) ⟨_, fun cdv A outer s H E ad F0 H0 hr => (pds_cons (psd_set (i := 2) (pd_const pe_non (fun _ => .non)) (by show ¬ (2 ∈ ([] : List Nat)); decide) sc_law_first.nd rfl (.inl rfl))
      (pds_cons (psd_for (passes_of rfl) rfl (pid_enum (by rfl) T.b_enumerate (pda_cons (pd_var (pv 0)) pda_nil)) (pgd_tup (is := [3, 4]) (vs := [3, 4]) (pg_tup rfl (pgs_cons (pg_name (i := 3) sc_law_first.nd rfl (.inl rfl)) (pgs_cons (pg_name (i := 4) sc_law_first.nd rfl (.inl rfl)) pgs_nil))) rfl (by show ∀ i ∈ ([3, 4] : List Nat), ¬ (i ∈ ([] : List Nat)) ∧ i ∈ ([3, 4] : List Nat); decide))
      (pds_cons (psd_set (i := 5) (pd_ifExp (ptd_cmp op_eq op2_eq.op (pd_ix ix_list op2_ixL (pd_var (pv 1)) (pd_const pe_int (fun _ => .int _)) (fun _ _ => rfl)) (pd_const pe_str (fun _ => .str (by decide +kernel))) (nomark _)) (pd_const pe_int (fun _ => .int _)) (pd_neg (pd_const pe_int (fun _ => .int _)))) (by show ¬ (5 ∈ ([] : List Nat)); decide) sc_law_first.nd rfl (.inl rfl))
      (pds_cons (psd_if (PW.pt (pwd_or (ptd_cmp op_eq op2_eq.op (pd_ix ix_list op2_ixL (pd_ix ix_list op2_ixL (pd_var (pv 4)) (pd_const pe_int (fun _ => .int _)) (fun _ _ => rfl)) (pd_const pe_int (fun _ => .int _)) (fun _ _ => rfl)) (pd_ix ix_list op2_ixL (pd_var (pv 1)) (pd_const pe_int (fun _ => .int _)) (fun _ _ => rfl)) (nomark _)) (pwd_or (ptd_cmp op_ne op2_ne.op (pd_ix ix_list op2_ixL (pd_ix ix_list op2_ixL (pd_var (pv 4)) (pd_const pe_int (fun _ => .int _)) (fun _ _ => rfl)) (pd_const pe_int (fun _ => .int _)) (fun _ _ => rfl)) (pd_ix ix_list op2_ixL (pd_var (pv 1)) (pd_const pe_int (fun _ => .int _)) (fun _ _ => rfl)) (nomark _)) (pwd_or1 (ptd_cmp op_eq op2_eq.op (pd_ix ix_list op2_ixL (pd_ix ix_list op2_ixL (pd_var (pv 4)) (pd_const pe_int (fun _ => .int _)) (fun _ _ => rfl)) (pd_const pe_int (fun _ => .int _)) (fun _ _ => rfl)) (pd_ix ix_list op2_ixL (pd_var (pv 1)) (pd_const pe_int (fun _ => .int _)) (fun _ _ => rfl)) (nomark _)))))) (pds_one psd_cont) pds_nil)
      (pds_cons (psd_if (ptd_cmp op_gt (op2_I0 fun _ _ _ => .bl _) (pd_op op_mul (op2_I fun _ _ _ => .int _) (pd_var (pv 5)) (pd_ix ix_list op2_ixL (pd_ix ix_list op2_ixL (pd_var (pv 4)) (pd_const pe_int (fun _ => .int _)) (fun _ _ => rfl)) (pd_const pe_int (fun _ => .int _)) (fun _ _ => rfl))) (pd_op op_mul (op2_I fun _ _ _ => .int _) (pd_var (pv 5)) (pd_ix ix_list op2_ixL (pd_var (pv 1)) (pd_const pe_int (fun _ => .int _)) (fun _ _ => rfl))) (nomark _)) (pds_one psd_cont) pds_nil)
      (pds_one (psd_if (PW.pt (pwd_or (ptd_cmp op_isN op2_isN.op (pd_var (pv 2)) (pd_const pe_non (fun _ => .non)) (nomark _)) (pwd_or1 (ptd_cmp op_lt (op2_I0 fun _ _ _ => .bl _) (pd_op op_mul (op2_I fun _ _ _ => .int _) (pd_var (pv 5)) (pd_ix ix_list op2_ixL (pd_ix ix_list op2_ixL (pd_var (pv 4)) (pd_const pe_int (fun _ => .int _)) (fun _ _ => rfl)) (pd_const pe_int (fun _ => .int _)) (fun _ _ => rfl))) (pd_op op_mul (op2_I fun _ _ _ => .int _) (pd_var (pv 5)) (pd_ix ix_list op2_ixL (pd_ix ix_list op2_ixL (pd_ix ix_list op2_ixL (pd_var (pv 0)) (pd_var (pv 2)) (fun _ _ => rfl)) (pd_const pe_int (fun _ => .int _)) (fun _ _ => rfl)) (pd_const pe_int (fun _ => .int _)) (fun _ _ => rfl))) (nomark _))))) (pds_one (psd_set (i := 2) (pd_var (pv 3)) (by show ¬ (2 ∈ ([] : List Nat)); decide) sc_law_first.nd rfl (.inl rfl))) pds_nil))))))
      (pds_one (psd_ret (pd_var (pv 2)))))), ?_⟩
  rintro as Qd Ed ⟨rs, p, rfl, hl, k⟩
  refine DR.start (δ' := [some (.d (rowsN rs)), some (.d (.lst (rowO p))), none, none, none, none]) rfl ?_
  walk_at "dd"
  refine ⟨_, _, rfl, .inl rfl, ?_⟩
  refine DR.for_inv (fun i δ => ∃ p3 p4 p5, δ = [some (.d (rowsN rs)), some (.d (.lst (rowO p))), some (.d (bD (bst p (rs.take i)))), p3, p4, p5]) ⟨none, none, none, rfl⟩ ?_ ?_
  · rintro i x δ N hx ⟨p3, p4, p5, rfl⟩ kN
    obtain ⟨y, hy, rfl⟩ := DR.enum_at hx
    obtain ⟨r, hri, rfl⟩ := DR.map_at hy
    have ht := bst_take (p := p) hri
    refine ⟨_, rfl, ?_⟩
    show seqD _ _ _ [some (.d (rowsN rs)), some (.d (.lst (rowO p))), some (.d (bD (bst p (rs.take i)))), some (.d (.int (i : Int))), some (.d (rowN r)), p5]
    with_reducible refine DR.cut (fun δ => δ = [some (.d (rowsN rs)), some (.d (.lst (rowO p))), some (.d (bD (bst p (rs.take i)))), some (.d (.int (i : Int))), some (.d (rowN r)), some (.d (.int (sgn p.b)))]) (fun N kN => ?_) ?_
    · walk_at "dd"
      refine ⟨_, _, .inl rfl, (by with_unfolding_all rfl), ?_⟩
      walk_at "dd"
      cases hb : p.b with
      | true =>
        rw [hb] at kN
        rw [show decide (side true = Str.ofString "buy") = true from by decide]
        walk_at "dd"
        exact kN _ rfl
      | false =>
        rw [hb] at kN
        rw [show decide (side false = Str.ofString "buy") = false from by decide]
        walk_at "dd"
        exact kN _ rfl
    · rintro δ rfl
      have hskip : meetB r.2 p = false → N [some (.d (rowsN rs)), some (.d (.lst (rowO p))), some (.d (bD (bst p (rs.take i)))), some (.d (.int (i : Int))), some (.d (rowN r)), some (.d (.int (sgn p.b)))] := fun hm => by
        refine kN _ ⟨some (.d (.int (i : Int))), some (.d (rowN r)), some (.d (.int (sgn p.b))), ?_⟩
        rw [ht]
        unfold stB
        rw [if_neg (by rw [hm]; exact Bool.false_ne_true)]
      walk_at "dd"
      iterate 3 (refine ⟨_, _, .inl rfl, (by with_unfolding_all rfl), ?_⟩; walk_at "dd")
      refine DR.split (fun c1 => ?_) (fun c1 => ?_)
      · walk_at "dd"
        exact hskip (meet_m c1)
      walk_at "dd"
      iterate 3 (refine ⟨_, _, .inl rfl, (by with_unfolding_all rfl), ?_⟩; walk_at "dd")
      refine DR.splitN (fun c2 => ?_) (fun c2 => ?_)
      rotate_left
      · walk_at "dd"
        exact hskip (meet_t c2)
      walk_at "dd"
      iterate 3 (refine ⟨_, _, .inl rfl, (by with_unfolding_all rfl), ?_⟩; walk_at "dd")
      refine DR.split (fun c3 => ?_) (fun c3 => ?_)
      · walk_at "dd"
        exact hskip (meet_b c3)
      have hm := meet_l c1 c2 c3
      have cm : ∀ l : Int, CMul (sgn p.b) l := fun l => by cases p.b <;> exact RD9.mull (by decide) (by decide)
      walk_at "dd"
      iterate 2 (refine ⟨_, _, .inl rfl, (by with_unfolding_all rfl), ?_⟩; walk_at "dd")
      refine ⟨cm _, ?_⟩
      walk_at "dd"
      refine ⟨_, _, .inl rfl, (by with_unfolding_all rfl), ?_⟩
      walk_at "dd"
      refine ⟨cm _, ?_⟩
      walk_at "dd"
      refine DR.split (fun c4 => ?_) (fun c4 => ?_)
      · walk_at "dd"
        exact hskip (hm.trans (decide_eq_false fun h => h c4))
      have hm := hm.trans (decide_eq_true c4)
      have hset : ∀ q, stB p (bst p (rs.take i)) (r, i) = q → N [some (.d (rowsN rs)), some (.d (.lst (rowO p))), some (.d (bD q)), some (.d (.int (i : Int))), some (.d (rowN r)), some (.d (.int (sgn p.b)))] := fun q e => by
        refine kN _ ⟨some (.d (.int (i : Int))), some (.d (rowN r)), some (.d (.int (sgn p.b))), ?_⟩
        rw [ht, e]
      unfold stB at hset
      rw [if_pos hm] at hset
      cases hb : bst p (rs.take i) with
      | none =>
        rw [hb] at hset
        rw [show bD none = .non from rfl]
        walk_at "dd"
        refine ⟨true, rfl, ⟨fun _ => rfl, fun _ => rfl⟩, ?_⟩
        walk_at "dd"
        exact hset (some (i, r)) rfl
      | some q =>
        rw [hb] at hset
        have hq := take_at (bst_at hb).1
        rw [show bD (some q) = .int (q.1 : Int) from rfl]
        walk_at "dd"
        refine ⟨false, rfl, ⟨(fun h => nomatch h), (fun h => nomatch h)⟩, ?_⟩
        walk_at "dd"
        iterate 2 (refine ⟨_, _, .inl rfl, (by with_unfolding_all rfl), ?_⟩; walk_at "dd")
        refine ⟨cm _, ?_⟩
        walk_at "dd"
        refine ⟨_, _, .inl rfl, atI_map hq, ?_⟩
        walk_at "dd"
        iterate 2 (refine ⟨_, _, .inl rfl, (by with_unfolding_all rfl), ?_⟩; walk_at "dd")
        refine ⟨cm _, ?_⟩
        walk_at "dd"
        refine DR.split (fun c5 => ?_) (fun c5 => ?_)
        · walk_at "dd"
          exact hset (some (i, r)) (if_pos c5)
        · walk_at "dd"
          exact hset (some q) (if_neg c5)
  · rintro δ ⟨p3, p4, p5, rfl⟩
    rw [DR.enum_len, List.length_map, List.take_length]
    walk_at "dd"
    exact k
end
end KT

set_option Elab.async false
set_option linter.all false
set_option maxRecDepth 100000
set_option maxHeartbeats 0
set_option pp.deepTerms false
set_option pp.deepTerms.threshold 8

namespace KT
open PySem PySem.Spec PyProof.Rows L2 DL
/-! the plain list that is gone through for the best row again and again comes to what the book tells -/
def Asc (rs : List Rw) : Prop := (rs.map (·.1)).Pairwise (· < ·)
def metL (rs : List Rw) (p : Od) : List Rw := rs.filter fun r => meetB r.2 p
theorem le2_iff {a b : Rw} : le2 kyR a b = true ↔ ((kyR a).1 < (kyR b).1 ∨ ((kyR a).1 = (kyR b).1 ∧ (kyR a).2 ≤ (kyR b).2)) := decide_eq_true_iff
theorem le2_pair (l : List Rw) : (l.mergeSort (le2 kyR)).Pairwise fun a b => le2 kyR a b = true := List.pairwise_mergeSort (fun a b c h1 h2 => by rw [le2_iff] at *; omega) (fun a b => by
  rw [Bool.or_eq_true, le2_iff, le2_iff]; omega) l
theorem srt_perm (rs : List Rw) (p : Od) : (srt rs p).Perm (metL rs p) := List.mergeSort_perm ..
theorem srt_pair (rs : List Rw) (p : Od) : (srt rs p).Pairwise fun a b => le2 kyR a b = true := le2_pair _
theorem asc_nd {rs : List Rw} (h : Asc rs) : (rs.map (·.1)).Nodup := List.Pairwise.imp (fun h => by omega) h
theorem key_inj : ∀ {rs : List Rw}, (rs.map (·.1)).Nodup → ∀ {a b : Rw}, a ∈ rs → b ∈ rs → a.1 = b.1 → a = b
  | c :: rs, hd, a, b, ha, hb, e => by
    rw [List.map_cons, List.nodup_cons] at hd
    rcases List.mem_cons.mp ha with rfl | ha' <;> rcases List.mem_cons.mp hb with rfl | hb'
    · rfl
    · exact (hd.1 (List.mem_map.mpr ⟨b, hb', e.symm⟩)).elim
    · exact (hd.1 (List.mem_map.mpr ⟨a, ha', e⟩)).elim
    · exact key_inj hd.2 ha' hb' e
theorem meet_side {r p : Od} (h : meetB r p = true) : sgn r.b = - sgn p.b := by
  by_cases c : side r.b = side p.b
  · rw [meet_b c] at h; cases h
  · exact sgn_ne c
theorem ky_met {r : Rw} {p : Od} (h : meetB r.2 p = true) : kyR r = (sgn p.b * r.2.l, r.1) := by
  show (-sgn r.2.b * r.2.l, r.1) = _
  rw [meet_side h, Int.neg_neg]
theorem fold_min {p : Od} : ∀ {l : List (Rw × Nat)} {acc : Option (Nat × Rw)}, l.Pairwise (fun a b => a.2 < b.2) → (∀ q, acc = some q → ∀ x ∈ l, q.1 < x.2) →
    (l.foldl (stB p) acc = none → acc = none ∧ ∀ x ∈ l, meetB x.1.2 p = false) ∧
    ∀ q, l.foldl (stB p) acc = some q → (∀ w, acc = some w → sgn p.b * q.2.2.l < sgn p.b * w.2.2.l ∨ (sgn p.b * q.2.2.l = sgn p.b * w.2.2.l ∧ q.1 ≤ w.1)) ∧ ∀ x ∈ l, meetB x.1.2 p = true → sgn p.b * q.2.2.l < sgn p.b * x.1.2.l ∨ (sgn p.b * q.2.2.l = sgn p.b * x.1.2.l ∧ q.1 ≤ x.2)
  | [], acc, _, _ => ⟨fun e => ⟨e, fun x h => nomatch h⟩, fun q e => ⟨fun w ew => by rw [show acc = some q from e] at ew; cases ew; exact .inr ⟨rfl, Nat.le_refl _⟩, fun x h => nomatch h⟩⟩
  | x :: l, acc, hp, ha => by
    rw [List.pairwise_cons] at hp
    have hst : ∀ q, stB p acc x = some q → ∀ y ∈ l, q.1 < y.2 := fun q e y hy => by
      have h1 := hp.1 y hy
      unfold stB at e
      split at e
      · cases acc with
        | none => cases e; exact h1
        | some w =>
          have e : (if sgn p.b * x.1.2.l < sgn p.b * w.2.2.l then some (x.2, x.1) else some w) = some q := e
          split at e
          · cases e; exact h1
          · cases e; exact ha _ rfl y (List.mem_cons_of_mem _ hy)
      · exact ha q e y (List.mem_cons_of_mem _ hy)
    obtain ⟨ih1, ih2⟩ := fold_min (p := p) (l := l) (acc := stB p acc x) hp.2 hst
    rw [List.foldl_cons]
    refine ⟨fun e => ?_, fun q e => ?_⟩
    · obtain ⟨e1, e2⟩ := ih1 e
      unfold stB at e1
      split at e1
      · cases acc with
        | none => cases e1
        | some w =>
          have e1 : (if sgn p.b * x.1.2.l < sgn p.b * w.2.2.l then some (x.2, x.1) else some w) = none := e1
          split at e1 <;> cases e1
      · rename_i hm
        exact ⟨e1, fun y hy => (List.mem_cons.mp hy).elim (fun z => by rw [z]; exact Bool.eq_false_iff.mpr hm) (e2 y)⟩
    · obtain ⟨i1, i2⟩ := ih2 q e
      by_cases hm : meetB x.1.2 p = true
      · cases acc with
        | none =>
          have es : stB p none x = some (x.2, x.1) := by unfold stB; rw [if_pos hm]
          have := i1 _ es
          exact ⟨(fun w ew => nomatch ew), fun y hy hy2 => (List.mem_cons.mp hy).elim (fun z => by rw [z]; exact this) fun z => i2 y z hy2⟩
        | some w =>
          have es : stB p (some w) x = if sgn p.b * x.1.2.l < sgn p.b * w.2.2.l then some (x.2, x.1) else some w := by unfold stB; rw [if_pos hm]
          have hw := ha w rfl x List.mem_cons_self
          by_cases c : sgn p.b * x.1.2.l < sgn p.b * w.2.2.l
          · rw [if_pos c] at es
            have := i1 _ es
            refine ⟨fun w' ew => ?_, fun y hy hy2 => (List.mem_cons.mp hy).elim (fun z => by rw [z]; exact this) fun z => i2 y z hy2⟩
            cases ew
            have h3 : sgn p.b * q.2.2.l < sgn p.b * x.1.2.l ∨ sgn p.b * q.2.2.l = sgn p.b * x.1.2.l ∧ q.1 ≤ x.2 := this
            exact .inl (by omega)
          · rw [if_neg c] at es
            have := i1 _ es
            refine ⟨fun w' ew => by cases ew; exact this, fun y hy hy2 => (List.mem_cons.mp hy).elim (fun z => ?_) fun z => i2 y z hy2⟩
            rw [z]
            omega
      · have es : stB p acc x = acc := by unfold stB; rw [if_neg hm]
        exact ⟨fun w ew => i1 w (es.trans ew), fun y hy hy2 => (List.mem_cons.mp hy).elim (fun z => by rw [z] at hy2; exact absurd hy2 hm) fun z => i2 y z hy2⟩
theorem zi_pair {α : Type} : ∀ {l : List α} {k : Nat}, (l.zipIdx k).Pairwise (fun a b => a.2 < b.2)
  | [], _ => .nil
  | a :: l, k => by
    rw [List.zipIdx_cons]
    refine List.pairwise_cons.mpr ⟨fun b hb => ?_, zi_pair⟩
    have := List.le_snd_of_mem_zipIdx hb
    exact this
theorem mem_zi {α : Type} {l : List α} {i : Nat} {x : α} (h : l[i]? = some x) : (x, i) ∈ l.zipIdx := List.mem_zipIdx_iff_getElem?.mpr h
theorem asc_at {rs : List Rw} (h : Asc rs) {i j : Nat} {a b : Rw} (ha : rs[i]? = some a) (hb : rs[j]? = some b) (hij : i ≤ j) : a.1 ≤ b.1 := by
  rcases Nat.lt_or_eq_of_le hij with z | z
  · obtain ⟨hi, e1⟩ := List.getElem?_eq_some_iff.mp ha
    obtain ⟨hj, e2⟩ := List.getElem?_eq_some_iff.mp hb
    have := List.pairwise_iff_getElem.mp h i j (by rw [List.length_map]; exact hi) (by rw [List.length_map]; exact hj) z
    rw [List.getElem_map, List.getElem_map, e1, e2] at this
    omega
  · subst z
    rw [ha] at hb
    cases hb
    exact Int.le_refl _
theorem bst_none {rs : List Rw} {p : Od} (h : bst p rs = none) : srt rs p = [] := by
  have h1 := ((fold_min (p := p) (l := rs.zipIdx) (acc := none) zi_pair (fun q e => nomatch e)).1 h).2
  have : metL rs p = [] := List.filter_eq_nil_iff.mpr fun r hr hm => by
    obtain ⟨i, hi⟩ := List.mem_iff_getElem?.mp hr
    have := h1 _ (mem_zi hi)
    rw [show meetB r.2 p = false from this] at hm
    cases hm
  have hp := srt_perm rs p
  rw [this] at hp
  exact hp.eq_nil
theorem bst_some {rs : List Rw} {p : Od} (ha : Asc rs) {q : Nat × Rw} (h : bst p rs = some q) : ∃ L, srt rs p = q.2 :: L := by
  obtain ⟨hk, hm⟩ := bst_at h
  have h1 := (((fold_min (p := p) (l := rs.zipIdx) (acc := none) zi_pair (fun q e => nomatch e)).2 q h).2)
  have hin : q.2 ∈ srt rs p := (srt_perm rs p).mem_iff.mpr (List.mem_filter.mpr ⟨List.mem_of_getElem? hk, hm⟩)
  have hle : ∀ y ∈ srt rs p, le2 kyR q.2 y = true := fun y hy => by
    obtain ⟨hy1, hy2⟩ := List.mem_filter.mp ((srt_perm rs p).mem_iff.mp hy)
    obtain ⟨i, hi⟩ := List.mem_iff_getElem?.mp hy1
    have h2 := h1 _ (mem_zi hi) hy2
    rw [le2_iff, ky_met hm, ky_met hy2]
    show _ < _ ∨ _ = _ ∧ q.2.1 ≤ y.1
    rcases h2 with h2 | ⟨h2, h3⟩
    · exact .inl h2
    · exact .inr ⟨h2, asc_at ha hk hi h3⟩
  have hs := srt_pair rs p
  cases e : srt rs p with
  | nil => rw [e] at hin; cases hin
  | cons r L =>
    rw [e] at hin hle hs
    have : r = q.2 := by
      rcases List.mem_cons.mp hin with z | z
      · exact z.symm
      · have a1 := (List.pairwise_cons.mp hs).1 _ z
        have a2 := hle r List.mem_cons_self
        rw [le2_iff] at a1 a2
        have hr : r ∈ rs := (List.mem_filter.mp ((srt_perm rs p).mem_iff.mp (by rw [e]; exact List.mem_cons_self))).1
        refine key_inj (asc_nd ha) hr (List.mem_of_getElem? hk) ?_
        show (kyR r).2 = (kyR q.2).2
        omega
    exact ⟨L, by rw [this]⟩
/-- the best row is taken away -/
theorem srt_less {A B L : List Rw} {r : Rw} {p : Od} (ha : Asc (A ++ r :: B)) (h : srt (A ++ r :: B) p = r :: L) : srt (A ++ B) p = L := by
  have hp := srt_perm (A ++ r :: B) p
  have hm : meetB r.2 p = true := (List.mem_filter.mp (hp.mem_iff.mp (by rw [h]; exact List.mem_cons_self))).2
  have h1 : (metL (A ++ r :: B) p).Perm (r :: metL (A ++ B) p) := by
    unfold metL
    rw [List.filter_append, List.filter_cons_of_pos (p := fun q : Rw => meetB q.2 p) hm, List.filter_append]
    exact List.perm_middle
  rw [h] at hp
  have hL : L.Perm (metL (A ++ B) p) := (hp.trans h1).cons_inv
  have hs := srt_pair (A ++ r :: B) p
  rw [h] at hs
  refine List.Perm.eq_of_pairwise (le := fun a b => le2 kyR a b = true) (fun a b h1 h2 l1 l2 => ?_) (srt_pair _ _) (List.pairwise_cons.mp hs).2 ((srt_perm _ _).trans hL.symm)
  have m1 : a ∈ A ++ B := (List.mem_filter.mp ((srt_perm _ _).mem_iff.mp h1)).1
  have m2 : b ∈ A ++ B := (List.mem_filter.mp (hL.mem_iff.mp h2)).1
  have hn : ((A ++ B).map (·.1)).Nodup := by
    have := asc_nd ha
    exact this.sublist ((List.Sublist.append (List.Sublist.refl A) (List.sublist_cons_self r B)).map _)
  refine key_inj hn m1 m2 ?_
  rw [le2_iff] at l1 l2
  show (kyR a).2 = (kyR b).2
  omega
/-- a number that stands in tk -/
theorem find_put {k : Key} {d : D} : ∀ {tk : List (Key × D)}, (tk.any fun kv => decide (kv.1 = k)) = true → valK (tk.map fun kv => if kv.1 = k then (kv.1, d) else kv) k = some d
  | [], h => by cases h
  | kv :: tk, h => by
    unfold valK
    rw [List.map_cons]
    by_cases e : kv.1 = k
    · rw [if_pos e, List.find?_cons_of_pos (by exact decide_eq_true e)]
      rfl
    · rw [if_neg e, List.find?_cons_of_neg (by simp [e])]
      rw [List.any_cons, decide_eq_false e, Bool.false_or] at h
      exact find_put h
theorem valK_put {tk : List (Key × D)} {k : Key} {d : D} : valK (putKD tk k d) k = some d := by
  unfold putKD
  split
  · rename_i h
    exact find_put h
  · rename_i h
    unfold valK
    rw [List.find?_append]
    have : tk.find? (fun p => decide (p.1 = k)) = none := List.find?_eq_none.mpr fun x hx hd => h (List.any_eq_true.mpr ⟨x, hx, hd⟩)
    rw [this]
    simp
theorem find_put_ne {k j : Key} {d : D} (h : j ≠ k) : ∀ {tk : List (Key × D)}, valK (tk.map fun kv => if kv.1 = k then (kv.1, d) else kv) j = valK tk j
  | [] => rfl
  | kv :: tk => by
    have ih := find_put_ne (d := d) h (tk := tk)
    unfold valK at *
    rw [List.map_cons]
    by_cases e : kv.1 = k
    · have : ¬ kv.1 = j := fun z => h (z.symm.trans e)
      rw [if_pos e, List.find?_cons_of_neg (by simp [this]), List.find?_cons_of_neg (by simp [this])]
      exact ih
    · rw [if_neg e]
      by_cases e2 : kv.1 = j
      · rw [List.find?_cons_of_pos (by simp [e2]), List.find?_cons_of_pos (by simp [e2])]
      · rw [List.find?_cons_of_neg (by simp [e2]), List.find?_cons_of_neg (by simp [e2])]
        exact ih
theorem valK_put_ne {tk : List (Key × D)} {k j : Key} {d : D} (h : j ≠ k) : valK (putKD tk k d) j = valK tk j := by
  unfold putKD
  split
  · exact find_put_ne h
  · unfold valK
    rw [List.find?_append]
    cases tk.find? (fun p => decide (p.1 = j)) with
    | none =>
      rw [Option.none_or, List.find?_cons_of_neg (by simp [Ne.symm h])]
      rfl
    | some x => rfl
theorem fold0 {p : Od} : ∀ {L : List Rw} {s : Ma}, s.left ≤ 0 → L.foldl (stepM p) s = s
  | [], _, _ => rfl
  | r :: L, s, h => by
    have : stepM p s r = s := by
      unfold stepM
      rw [if_neg (by omega)]
    rw [List.foldl_cons, this]
    exact fold0 h
theorem fold_old {p : Od} : ∀ {L : List Rw} {s : Ma} {k : Key}, (∀ r ∈ L, k ≠ .inl r.1) → valK (L.foldl (stepM p) s).tk k = valK s.tk k
  | [], _, _, _ => rfl
  | r :: L, s, k, h => by
    rw [List.foldl_cons, fold_old fun q hq => h q (List.mem_cons_of_mem _ hq)]
    unfold stepM
    split
    · exact valK_put_ne (h r List.mem_cons_self)
    · rfl
theorem less_same {rs : List Rw} {tk : List (Key × D)} (h : ∀ r ∈ rs, valK tk (.inl r.1) = none) : lessF rs tk = rs := by
  unfold lessF
  induction rs with
  | nil => rfl
  | cons r rs ih =>
    have e : lessR tk r = some r := by
      unfold lessR
      rw [h r List.mem_cons_self]
    rw [List.filterMap_cons, e, ih fun q hq => h q (List.mem_cons_of_mem _ hq)]
structure LA (rs0 : List Rw) (p : Od) (i : Nat) (rs : List Rw) (left : Int) (fs : List Fl) : Prop where
  tk : ∃ tk, (srt rs p).foldl (stepM p) ⟨left, fs, tk⟩ = mat rs0 p ∧ ∀ r ∈ rs, valK tk (.inl r.1) = none
  ls : lessF rs (mat rs0 p).tk = lessF rs0 (mat rs0 p).tk
  ln : (srt rs p).length + i ≤ rs0.length
  nn : 0 ≤ left
  ok : ∀ r ∈ rs, 1 ≤ r.2.n
  as : Asc rs
structure LB (rs0 : List Rw) (p : Od) (rs : List Rw) (left : Int) (fs : List Fl) : Prop where
  le : left = (mat rs0 p).left
  fs : fs = (mat rs0 p).fs
  rs : rs = lessF rs0 (mat rs0 p).tk
def LI (rs0 : List Rw) (p : Od) (i : Nat) (rs : List Rw) (left : Int) (fs : List Fl) : Prop := LA rs0 p i rs left fs ∨ (left = 0 ∧ LB rs0 p rs left fs)
theorem LI.zero {rs : List Rw} {p : Od} (h1 : ∀ r ∈ rs, 1 ≤ r.2.n) (ha : Asc rs) (hp : 1 ≤ p.n) : LI rs p 0 rs p.n [] :=
  .inl ⟨⟨[], rfl, fun _ _ => rfl⟩, rfl, by rw [Nat.add_zero, (srt_perm rs p).length_eq]; exact List.length_filter_le .., by omega, h1, ha⟩
theorem LI.stop {rs0 : List Rw} {p : Od} {i : Nat} {rs : List Rw} {left : Int} {fs : List Fl} (h : LI rs0 p i rs left fs) (c : bst p rs = none ∨ left = 0) : LB rs0 p rs left fs := by
  rcases h with ⟨⟨tk, e, ht⟩, ls, _, _, _, _⟩ | ⟨_, h⟩
  · have e : (⟨left, fs, tk⟩ : Ma) = mat rs0 p := by
      rcases c with c | c
      · rw [bst_none c] at e; exact e
      · rw [fold0 (by show left ≤ 0; omega)] at e; exact e
    rw [← e] at ls
    rw [less_same (show ∀ r ∈ rs, valK tk (.inl r.1) = none from ht)] at ls
    exact ⟨by rw [← e], by rw [← e], by rw [← e]; exact ls⟩
  · exact h
theorem LI.last {rs0 : List Rw} {p : Od} {rs : List Rw} {left : Int} {fs : List Fl} (h : LI rs0 p (rs0.length + 1) rs left fs) : LB rs0 p rs left fs := by
  rcases h with h | ⟨_, h⟩
  · have := h.ln; omega
  · exact h
def cutR (rs : List Rw) (k : Nat) (r : Rw) (c : Int) : List Rw := (rs.set k (r.1, { r.2 with n := r.2.n - c })).filter fun q => decide (q.2.n > 0)
theorem split_at {rs : List Rw} {k : Nat} {r : Rw} (h : rs[k]? = some r) : ∃ A B, rs = A ++ r :: B ∧ ∀ q, rs.set k q = A ++ q :: B := by
  refine ⟨rs.take k, rs.drop (k + 1), ?_, fun q => ?_⟩
  · have hk := set_lt h
    have e : rs[k] = r := Option.some.inj ((List.getElem?_eq_getElem hk).symm.trans h)
    rw [← e, ← List.drop_eq_getElem_cons hk, List.take_append_drop]
  · rw [List.set_eq_take_append_cons_drop, if_pos (set_lt h)]
theorem LI.step {rs0 : List Rw} {p : Od} {i : Nat} {rs : List Rw} {left : Int} {fs : List Fl} (h : LI rs0 p i rs left fs) {q : Nat × Rw} (c : bst p rs = some q) (hl : left ≠ 0) :
    LI rs0 p (i + 1) (cutR rs q.1 q.2 (min left q.2.2.n)) (left - min left q.2.2.n) (fs ++ [fillF p q.2.2 (min left q.2.2.n)]) := by
  rcases h with h | ⟨h, _⟩
  rotate_left
  · exact absurd h hl
  obtain ⟨k, r⟩ := q
  obtain ⟨hk, hm⟩ := bst_at c
  obtain ⟨L, hL⟩ := bst_some h.as c
  have hk : rs[k]? = some r := hk
  have hL : srt rs p = r :: L := hL
  obtain ⟨A, B, eA, eS⟩ := split_at hk
  obtain ⟨⟨tk, e, ht⟩, ls, ln, nn, ok, as⟩ := h
  have hr := ok r (List.mem_of_getElem? hk)
  show LI rs0 p (i + 1) (cutR rs k r (min left r.2.n)) (left - min left r.2.n) (fs ++ [fillF p r.2 (min left r.2.n)])
  have hpos : 0 < min left r.2.n := by omega
  have e1 : stepM p ⟨left, fs, tk⟩ r = ⟨left - min left r.2.n, fs ++ [fillF p r.2 (min left r.2.n)], putKD tk (.inl r.1) (.int (min left r.2.n))⟩ := by
    unfold stepM
    rw [if_pos hpos]
  rw [hL, List.foldl_cons, e1] at e
  have nd := asc_nd as
  have hne : ∀ x ∈ A ++ B, (Sum.inl x.1 : Key) ≠ .inl r.1 := fun x hx z => by
    rw [eA] at nd
    have z := Sum.inl.inj z
    rw [List.map_append, List.map_cons, List.nodup_append, List.nodup_cons] at nd
    obtain ⟨_, ⟨n1, _⟩, n2⟩ := nd
    rcases List.mem_append.mp hx with hx | hx
    · exact n2 x.1 (List.mem_map.mpr ⟨x, hx, rfl⟩) r.1 List.mem_cons_self z
    · exact n1 (List.mem_map.mpr ⟨x, hx, z⟩)
  have hAB : ∀ x ∈ A ++ B, x ∈ rs := fun x hx => by
    rw [eA]
    exact (List.mem_append.mp hx).elim (fun h => List.mem_append_left _ h) fun h => List.mem_append_right _ (List.mem_cons_of_mem _ h)
  have hfil : ∀ l : List Rw, (∀ x ∈ l, x ∈ rs) → l.filter (fun q => decide (q.2.n > 0)) = l := fun l hl => List.filter_eq_self.mpr fun x hx => decide_eq_true (by have := ok x (hl x hx); omega)
  have hA : ∀ x ∈ A, x ∈ rs := fun x hx => hAB x (List.mem_append_left _ hx)
  have hB : ∀ x ∈ B, x ∈ rs := fun x hx => hAB x (List.mem_append_right _ hx)
  have htk : ∀ x ∈ A ++ B, valK (putKD tk (.inl r.1) (.int (min left r.2.n))) (.inl x.1) = none := fun x hx => by
    rw [valK_put_ne (hne x hx)]
    exact ht x (hAB x hx)
  have hsrt := srt_less (by rw [← eA]; exact as) (by rw [← eA]; exact hL)
  have hLL : ∀ x ∈ L, (Sum.inl r.1 : Key) ≠ .inl x.1 := fun x hx z => by
    rw [← hsrt] at hx
    exact hne x ((List.mem_filter.mp ((srt_perm _ _).mem_iff.mp hx)).1) z.symm
  have hrv : valK (mat rs0 p).tk (.inl r.1) = some (.int (min left r.2.n)) := by
    rw [← e, fold_old hLL]
    exact valK_put
  by_cases c : r.2.n ≤ left
  · have em : min left r.2.n = r.2.n := by omega
    have ec : cutR rs k r (min left r.2.n) = A ++ B := by
      unfold cutR
      rw [eS, List.filter_append, List.filter_cons_of_neg (by rw [em]; show ¬ decide (r.2.n - r.2.n > 0) = true; rw [decide_eq_true_iff]; omega), hfil A hA, hfil B hB]
    rw [ec]
    refine .inl ⟨⟨_, by rw [hsrt]; exact e, htk⟩, ?_, ?_, by omega, fun x hx => ok x (hAB x hx), ?_⟩
    · rw [← ls, eA]
      unfold lessF
      rw [List.filterMap_append, List.filterMap_append, List.filterMap_cons]
      have : lessR (mat rs0 p).tk r = none := by
        unfold lessR
        rw [hrv]
        show (if min left r.2.n < r.2.n then _ else _) = _
        rw [if_neg (by omega)]
      rw [this]
    · rw [hsrt]
      rw [hL, List.length_cons] at ln
      omega
    · have h2 := as
      unfold Asc at h2 ⊢
      rw [eA] at h2
      exact h2.sublist ((List.Sublist.append (List.Sublist.refl A) (List.sublist_cons_self r B)).map _)
  · have em : min left r.2.n = left := by omega
    have ec : cutR rs k r (min left r.2.n) = A ++ (r.1, { r.2 with n := r.2.n - min left r.2.n }) :: B := by
      unfold cutR
      rw [eS, List.filter_append, List.filter_cons_of_pos (by show decide (r.2.n - min left r.2.n > 0) = true; rw [decide_eq_true_iff]; omega), hfil A hA, hfil B hB]
    rw [ec]
    have e2 : (⟨left - min left r.2.n, fs ++ [fillF p r.2 (min left r.2.n)], putKD tk (.inl r.1) (.int (min left r.2.n))⟩ : Ma) = mat rs0 p := by
      rw [← e, fold0 (by show left - min left r.2.n ≤ 0; omega)]
    refine .inr ⟨by omega, ⟨by rw [← e2], by rw [← e2], ?_⟩⟩
    rw [← ls, eA]
    unfold lessF
    have l1 : ∀ l : List Rw, (∀ x ∈ l, x ∈ A ++ B) → l.filterMap (lessR (mat rs0 p).tk) = l := fun l hl => less_same fun x hx => by
      rw [← e2]; exact htk x (hl x hx)
    rw [List.filterMap_append, List.filterMap_cons, l1 A fun x hx => List.mem_append_left _ hx, l1 B fun x hx => List.mem_append_right _ hx]
    have : lessR (mat rs0 p).tk r = some (r.1, { r.2 with n := r.2.n - min left r.2.n }) := by
      unfold lessR
      rw [hrv]
      show (if min left r.2.n < r.2.n then _ else _) = _
      rw [if_pos (by omega)]
    rw [this]
end KT

set_option Elab.async false
set_option linter.all false
set_option maxRecDepth 100000
set_option maxHeartbeats 0
set_option pp.deepTerms false
set_option pp.deepTerms.threshold 8


namespace KT
open PySem PySem.Spec PyProof.Rows L2 DL
/-! _law_placed: rows that change are cells -/
abbrev preD (x : Addr × Rw) : D := .lst [.int x.2.1, .adr x.1]
structure CrOk (cr : List (Addr × Rw)) (cs : Cells) : Prop where
  nc : (cs.map (·.1)).Nodup
  nr : (cr.map (·.1)).Nodup
  mem : ∀ x ∈ cr, (x.1, .lst (rowO x.2.2)) ∈ cs
theorem CrOk.nil : CrOk [] [] := ⟨.nil, .nil, fun _ h => nomatch h⟩
theorem CrOk.fill {K : PySem.W.Frag} {cr : List (Addr × Rw)} {cs : Cells} (h : CrOk cr cs) : FillL K cs (cr.map preD) ((cr.map (·.2)).map rowN) := by
  rw [List.map_map]
  exact FillL.map fun x hx => Fill.lst (.cons Fill.refl (.cons (Fill.adr (o := .lst (rowO x.2.2)) (h.mem x hx)) .nil))
theorem CrOk.add {cr : List (Addr × Rw)} {cs : Cells} {a : Addr} {r : Rw} (h : CrOk cr cs) (ha : a ∉ cs.map (·.1)) : CrOk (cr ++ [(a, r)]) ((a, .lst (rowO r.2)) :: cs) := by
  refine ⟨List.nodup_cons.mpr ⟨ha, h.nc⟩, ?_, fun x hx => ?_⟩
  · rw [List.map_append]
    refine List.nodup_append.mpr ⟨h.nr, List.nodup_cons.mpr ⟨(fun z => nomatch z), .nil⟩, fun x hx y hy e => ?_⟩
    have hy : y = a := List.mem_singleton.mp hy
    subst hy
    subst e
    obtain ⟨z, hz, e⟩ := List.mem_map.mp hx
    exact ha (List.mem_map.mpr ⟨_, h.mem z hz, e⟩)
  · rcases List.mem_append.mp hx with hx | hx
    · exact List.mem_cons_of_mem _ (h.mem x hx)
    · rw [List.mem_singleton.mp hx]
      exact List.mem_cons_self
theorem CrOk.sub {cr cr' : List (Addr × Rw)} {cs : Cells} (h : CrOk cr cs) (s : cr'.Sublist cr) : CrOk cr' cs := ⟨h.nc, h.nr.sublist (s.map _), fun x hx => h.mem x (s.subset hx)⟩
theorem CrOk.set {cr : List (Addr × Rw)} {cs : Cells} {k j : Nat} {a : Addr} {r r' : Rw} {o : OC} (h : CrOk cr cs) (hk : cr[k]? = some (a, r)) (hj : cs[j]? = some (a, o)) : CrOk (cr.set k (a, r')) (cs.set j (a, .lst (rowO r'.2))) := by
  obtain ⟨n1, n2⟩ := cells_new (o' := .lst (rowO r'.2)) hj
  refine ⟨by rw [n2]; exact h.nc, ?_, fun x hx => ?_⟩
  · rw [List.map_set]
    have : (cr.map (·.1)).set k a = cr.map (·.1) := by
      refine List.ext_getElem? fun i => ?_
      rw [List.getElem?_set]
      split
      · rename_i e
        subst e
        rw [if_pos (by rw [List.length_map]; exact set_lt hk), List.getElem?_map, hk]
        rfl
      · rfl
    show ((cr.map (·.1)).set k a).Nodup
    rw [this]
    exact h.nr
  · obtain ⟨A, B, eA, eS⟩ : ∃ A B, cr = A ++ (a, r) :: B ∧ cr.set k (a, r') = A ++ (a, r') :: B := by
      refine ⟨cr.take k, cr.drop (k + 1), ?_, ?_⟩
      · have hl := set_lt hk
        have e : cr[k] = (a, r) := Option.some.inj ((List.getElem?_eq_getElem hl).symm.trans hk)
        rw [← e, ← List.drop_eq_getElem_cons hl, List.take_append_drop]
      · rw [List.set_eq_take_append_cons_drop, if_pos (set_lt hk)]
    have nr := h.nr
    rw [eA, List.map_append, List.map_cons, List.nodup_append, List.nodup_cons] at nr
    obtain ⟨_, ⟨m1, _⟩, m2⟩ := nr
    rw [eS] at hx
    rcases List.mem_append.mp hx with hx | hx
    · exact cells_set hj (h.mem x (by rw [eA]; exact List.mem_append_left _ hx)) fun e => m2 x.1 (List.mem_map.mpr ⟨x, hx, rfl⟩) a List.mem_cons_self e
    · rcases List.mem_cons.mp hx with hx | hx
      · rw [hx]; exact n1
      · exact cells_set hj (h.mem x (by rw [eA]; exact List.mem_append_right _ (List.mem_cons_of_mem _ hx))) fun e => m1 (List.mem_map.mpr ⟨x, hx, e⟩)
section
variable {P : Program} {w : World} {K : PySem.W.Frag} {mg : Str → Option Value} {base : Heap} {C OB NO : Addr}
abbrev stP (X : List D) (n : Nat) (p : Od) (left : Int) (fs : List Fl) (p5 p6 p7 p8 p9 p10 : Option DV) : DSt := [some (.own (.lst X)), some (.d (.int (n : Int))), some (.d (.lst (rowO p))), some (.d (.int left)), some (.own (.lst (fs.map flD))), p5, p6, p7, p8, p9, p10, none]
def sdPlacedL : SpD := fun as Q _ => ∃ (rs : List Rw) (n : Nat) (p : Od), as = [.d (rowsN rs), .d (.int (n : Int)), .d (.lst (rowO p))] ∧ BkOk rs n ∧ Asc rs ∧ n ≤ 500 ∧ OdOk p ∧ Q (.d (.tup [rowsN (placeR rs n p), fsD (mat rs p).fs])) []
abbrev s_law_placed : Stmt := top 34
theorem sc_law_placed : FnScope ["rows", "number", "row", "left", "fills", "turn", "place", "other", "count", "buyer", "seller", "one"] ["rows", "number", "row"] (defScope s_law_placed) := ⟨rfl, rfl, rfl, by decide +kernel, rfl, by decide +kernel, by decide +kernel⟩
theorem ok_placedL (D_law_first : DefD P w K mg base "_law_first" 1 ["rows", "row"] sdFirst) {f : Addr} {fd : FuncData} (G : Fun K "_law_placed" "_law_placed" s_law_placed f fd) (T : TxtO K mg C) : FnOk P w K mg base (L2.CX P w) 3 f fd ["rows", "number", "row"] (spOf K sdPlacedL) := by
  refine okD G sc_law_placed [] (fun as Q E ⟨rs, n, p, e, _⟩ => by subst e; exact ⟨rfl, rfl⟩) ⟨_, fun cdv A outer s H E ad F0 H0 hr =>
    pss_exit (K := K) (pdsc_cons (psc_par3 (i := 0) (j := 3) (l := 4) (oi := true) (oj := false) (ol := true) (pkc_cons (pec_lc (own := [("one", 11)]) (by rfl) sc_law_placed.nd (pid_list (pd_fvar (i := 0) (pv 0) (by show ¬ (0 ∈ ([] : List Nat)); decide))) (blkOk_by (own := [("one", 11)]) (N := ["rows", "number", "row", "left", "fills", "turn", "place", "other", "count", "buyer", "seller", "one"]) (sc := defScope s_law_placed) (by decide +kernel)) (fun _ _ _ _ _ => (pgd_name (i := 11) (vs := [11]) (pg_name (i := 11) sc_law_placed.nd rfl (.inl rfl)) (by show ¬ (11 ∈ ([] : List Nat)); decide) (by decide))) (fun _ _ _ _ _ => ptsc_up ptsd_nil) (fun _ _ _ _ _ => pec_cell2 (pd_ix ix_list op2_ixL (pd_var (pv 11)) (pd_const pe_int (fun _ => .int _)) (fun _ _ => rfl)) (pd_builtB (fun h => pe_callTy call_list_of (by rfl) T.b_list (by decide +kernel) h) cn_list (pda_cons (pd_ix ix_list op2_ixL (pd_var (pv 11)) (pd_const pe_int (fun _ => .int _)) (fun _ _ => rfl)) pda_nil))) (by show ∀ i ∈ ([11] : List Nat), ¬ (i ∈ ([] : List Nat)); decide)) (pka_cons (pd_ix ix_list op2_ixL (pd_var (pv 2)) (pd_const pe_int (fun _ => .int _)) (fun _ _ => rfl)) (pka_cons (pd_lst (fun h => pe_lst h) pda_nil) pka_nil))) (by show ¬ (0 ∈ ([] : List Nat)); decide) (by show ¬ (3 ∈ ([] : List Nat)); decide) (by show ¬ (4 ∈ ([] : List Nat)); decide) (fun h => ps_par3 (i := 0) (j := 3) (l := 4) (by rfl) sc_law_placed.nd rfl rfl rfl (by decide) (by decide) (by decide) rfl rfl rfl h (by rfl)) (by decide) (by decide) (by decide))
      (pdsc_cons (psc_for (passes_of rfl) rfl (pid_range1 (by rfl) T.b_range (pda_cons (pd_op op_add (op2_I0 fun _ _ _ => .int _) (pd_builtO (i := 0) (fun h => pe_callB call_len_seq (by rfl) T.b_len (by decide +kernel) h) cn_len (pv 0)) (pd_const pe_int (fun _ => .int _))) pda_nil)) (pgd_name (i := 5) (vs := [5]) (pg_name (i := 5) sc_law_placed.nd rfl (.inl rfl)) (by show ¬ (5 ∈ ([] : List Nat)); decide) (by decide))
      (pdsc_cons (psc_set (i := 6) (o := false) (pec_lend (K := K) D_law_first.ok (hr.mono (by decide)) (by rfl) D_law_first.mg D_law_first.kp D_law_first.b (takes_of rfl rfl rfl rfl) (pv 0) (pv 2)) (by show ¬ (6 ∈ ([] : List Nat)); decide) sc_law_placed.nd rfl (.inl rfl))
      (pdsc_cons (psc_up (psd_if (PW.pt (pwd_or (ptd_cmp op_isN op2_isN.op (pd_var (pv 6)) (pd_const pe_non (fun _ => .non)) (nomark _)) (pwd_or1 (ptd_cmp op_eq op2_eq.op (pd_var (pv 3)) (pd_const pe_int (fun _ => .int _)) (nomark _))))) (pds_one psd_break) pds_nil))
      (pdsc_cons (psc_up (psd_setO (i := 7) (pd_ix ix_list op2_ixL (pd_ixO (i := 0) (pv 0) (pd_var (pv 6)) (fun _ _ => rfl)) (pd_const pe_int (fun _ => .int _)) (fun _ _ => rfl)) (by show ¬ (7 ∈ ([] : List Nat)); decide) sc_law_placed.nd rfl (.inl rfl)))
      (pdsc_cons (psc_with (i := 7) (fun _ => psd_set (i := 8) (pd_builtB (fun h => pe_callB (call_min2 rfl) (by rfl) T.b_min (by decide +kernel) h) cn_two.op (pda_cons (pd_var (pv 3)) (pda_cons (pd_ixO (i := 7) (pv 7) (pd_const pe_int (fun _ => .int _)) (fun _ _ => rfl)) pda_nil))) (by show ¬ (8 ∈ ([7] : List Nat)); decide) sc_law_placed.nd rfl (.inl rfl)) (by show ¬ (7 ∈ ([] : List Nat)); decide))
      (pdsc_cons (psc_with (i := 7) (fun _ => psd_unpack (pd_ifExp (ptd_cmp op_eq op2_eq.op (pd_ix ix_list op2_ixL (pd_var (pv 2)) (pd_const pe_int (fun _ => .int _)) (fun _ _ => rfl)) (pd_const pe_str (fun _ => .str (by decide +kernel))) (nomark _)) (pd_tup (fun h => pe_tup h) (pda_cons (pd_ix ix_list op2_ixL (pd_var (pv 2)) (pd_const pe_int (fun _ => .int _)) (fun _ _ => rfl)) (pda_cons (pd_ixO (i := 7) (pv 7) (pd_const pe_int (fun _ => .int _)) (fun _ _ => rfl)) pda_nil))) (pd_tup (fun h => pe_tup h) (pda_cons (pd_ixO (i := 7) (pv 7) (pd_const pe_int (fun _ => .int _)) (fun _ _ => rfl)) (pda_cons (pd_ix ix_list op2_ixL (pd_var (pv 2)) (pd_const pe_int (fun _ => .int _)) (fun _ _ => rfl)) pda_nil)))) (pgd_tup (is := [9, 10]) (vs := [9, 10]) (pg_tup rfl (pgs_cons (pg_name (i := 9) sc_law_placed.nd rfl (.inl rfl)) (pgs_cons (pg_name (i := 10) sc_law_placed.nd rfl (.inl rfl)) pgs_nil))) rfl (by show ∀ i ∈ ([9, 10] : List Nat), ¬ (i ∈ ([7] : List Nat)) ∧ i ∈ ([9, 10] : List Nat); decide)) (fun h g => ps_asg h g)) (by show ¬ (7 ∈ ([] : List Nat)); decide))
      (pdsc_cons (psc_with (i := 7) (fun _ => psd_expr (pd_methO (j := 4) (fun ho h => pe_bm PySem.F.plainAttrs_list PySem.F.slot_list_append PySem.F.type_list_append mt_append ho h) mo_append (pv 4) (pda_cons (pd_tup (fun h => pe_tup h) (pda_cons (pd_var (pv 9)) (pda_cons (pd_var (pv 10)) (pda_cons (pd_ix ix_list op2_ixL (pd_var (pv 2)) (pd_const pe_int (fun _ => .int _)) (fun _ _ => rfl)) (pda_cons (pd_var (pv 8)) (pda_cons (pd_ixO (i := 7) (pv 7) (pd_const pe_int (fun _ => .int _)) (fun _ _ => rfl)) pda_nil)))))) pda_nil))) (by show ¬ (7 ∈ ([] : List Nat)); decide))
      (pdsc_cons (psc_up (psd_set (i := 3) (pd_op op_sub (op2_I0 fun _ _ _ => .int _) (pd_var (pv 3)) (pd_var (pv 8))) (by show ¬ (3 ∈ ([] : List Nat)); decide) sc_law_placed.nd rfl (.inl rfl)))
      (pdsc_cons (psc_with (i := 7) (fun _ => psd_setItem (j := 7) (fun h g => ps_asg h g) (fun ho hi hs => pg_sub ho hi hs) (pv 7) (pd_op op_sub (op2_I0 fun _ _ _ => .int _) (pd_ixO (i := 7) (pv 7) (pd_const pe_int (fun _ => .int _)) (fun _ _ => rfl)) (pd_var (pv 8))) (pd_const pe_int (fun _ => .int _))) (by show ¬ (7 ∈ ([] : List Nat)); decide))
      (pdsc_one (psc_setLc (i := 0) (o := true) (own := [("one", 11)]) (by show ¬ (0 ∈ ([] : List Nat)); decide) (by rfl) sc_law_placed.nd rfl rfl (sw_true rfl rfl rfl (by decide +kernel)) (pid_list (pd_fvar (i := 0) (pv 0) (by show ¬ (0 ∈ ([] : List Nat)); decide))) (blkOk_by (own := [("one", 11)]) (N := ["rows", "number", "row", "left", "fills", "turn", "place", "other", "count", "buyer", "seller", "one"]) (sc := defScope s_law_placed) (by decide +kernel)) (fun _ _ _ _ _ => (pgd_name (i := 11) (vs := [11]) (pg_name (i := 11) sc_law_placed.nd rfl (.inl rfl)) (by show ¬ (11 ∈ ([] : List Nat)); decide) (by decide))) (fun _ _ _ _ _ => ptsc_one (ptc_gt (pec_ix (pd_ix ix_list op2_ixL (pd_var (pv 11)) (pd_const pe_int (fun _ => .int _)) (fun _ _ => rfl)) pe_int (fun _ _ => rfl)) pe_int (nomark _))) (fun _ _ _ _ _ => pec_up (pd_var (pv 11))) (by show ∀ i ∈ ([11] : List Nat), ¬ (i ∈ ([] : List Nat)); decide))))))))))))
      (pdsc_cons (psc_up (psd_if (ptd_cmp op_gt (op2_I0 fun _ _ _ => .bl _) (pd_var (pv 3)) (pd_const pe_int (fun _ => .int _)) (nomark _)) (pds_one (psd_expr (pd_methO (j := 0) (fun ho h => pe_bm PySem.F.plainAttrs_list PySem.F.slot_list_append PySem.F.type_list_append mt_append ho h) mo_append (pv 0) (pda_cons (pd_lst (fun h => pe_lst h) (pda_cons (pd_var (pv 1)) (pda_cons (pd_op op_cat op2_cat (pd_slice (pd_var (pv 2)) pod_none (pod_some (pd_const pe_int (fun _ => .int _)))) (pd_lst (fun h => pe_lst h) (pda_cons (pd_var (pv 3)) (pda_cons (pd_ix ix_list op2_ixL (pd_var (pv 2)) (pd_const pe_int (fun _ => .int _)) (fun _ _ => rfl)) pda_nil)))) pda_nil))) pda_nil)))) pds_nil))
      (pdsc_one (psc_up (psd_ret (pd_tup (fun h => pe_tup h) (pda_cons (pd_fvar (i := 0) (pv 0) (by show ¬ (0 ∈ ([] : List Nat)); decide)) (pda_cons (pd_builtB (fun h => pe_callTy call_tuple_of (by rfl) T.b_tuple (by decide +kernel) h) cn_tuple (pda_cons (pd_fvar (i := 4) (pv 4) (by show ¬ (4 ∈ ([] : List Nat)); decide)) pda_nil)) pda_nil))))))))), ?_⟩
  rintro as Qd Ed ⟨rs, n, p, rfl, hb, ha, hn, ho, k⟩
  refine DR.start (δ' := [some (.d (rowsN rs)), some (.d (.int (n : Int))), some (.d (.lst (rowO p))), none, none, none, none, none, none, none, none, none]) rfl ?_
  have hl : rs.length ≤ 500 := Nat.le_trans hb.ln hn
  refine DR.exitC ?_
  with_reducible refine DR.cutC (fun δ cs => ∃ cr, CrOk cr cs ∧ cr.map (·.2) = rs ∧ δ = [some (.own (.lst (cr.map preD))), some (.d (.int (n : Int))), some (.d (.lst (rowO p))), some (.d (.int p.n)), some (.own (.lst [])), none, none, none, none, none, none, none]) (fun N kN => ?_) ?_
  · refine DR.par3C (DR.consKc (DR.compC ?_))
    walk_at "dd"
    refine DR.lcC_inv (fun i acc δ cs => ∃ cr, CrOk cr cs ∧ cr.map (·.2) = rs.take i ∧ acc = cr.map preD ∧ δ = [some (.d (rowsN rs)), some (.d (.int (n : Int))), some (.d (.lst (rowO p))), none, none, none, none, none, none, none, none, none]) ⟨[], CrOk.nil, by rw [List.take_zero]; rfl, rfl, rfl⟩ ?_ ?_
    · rintro i x acc δ cs N hx ⟨cr, hc, he, rfl, rfl⟩ kN
      obtain ⟨r, hri, rfl⟩ := DR.map_at hx
      walk_at "dd"
      refine DR.upT ?_
      walk_at "dd"
      refine DR.cell2 ?_
      walk_at "dd"
      iterate 2 (refine ⟨_, _, .inl rfl, (by with_unfolding_all rfl), ?_⟩; walk_at "dd")
      refine fun b hb => ⟨?_, kN _ _ _ ⟨cr ++ [(b, r)], hc.add hb, ?_, ?_, rfl⟩⟩
      · have : cr.length = (rs.take i).length := by rw [← he, List.length_map]
        rw [List.length_map, this, List.length_take]
        exact Nat.lt_of_le_of_lt (show min i rs.length ≤ 500 by omega) (by decide)
      · rw [List.map_append, he, List.take_add_one, hri]
        rfl
      · rw [List.map_append]
        rfl
    · rintro acc δ cs ⟨cr, hc, he, rfl, rfl⟩
      rw [List.length_map, List.take_length] at he
      walk_at "dd"
      refine ⟨_, _, .inl rfl, (by with_unfolding_all rfl), ?_⟩
      walk_at "dd"
      exact ⟨_, _, _, rfl, kN _ _ ⟨cr, hc, he, rfl⟩⟩
  · rintro δ cs ⟨cr, hc, hrs, rfl⟩
    have hcl : cr.length = rs.length := by rw [← hrs, List.length_map]
    with_reducible refine DR.cutC (fun δ cs => ∃ cr left fs p5 p6 p7 p8 p9 p10, CrOk cr cs ∧ LB rs p (cr.map (·.2)) left fs ∧ cr.length ≤ 500 ∧ δ = [some (.own (.lst (cr.map preD))), some (.d (.int (n : Int))), some (.d (.lst (rowO p))), some (.d (.int left)), some (.own (.lst (fs.map flD))), p5, p6, p7, p8, p9, p10, none]) (fun N kN => ?_) ?_
    · refine DR.forC ?_
      walk_at "dd"
      rw [List.length_map, hcl]
      refine ⟨by omega, by omega, ?_⟩
      have hup : (upto 0 (((rs.length : Nat) : Int) + 1).toNat).length = rs.length + 1 := by
        unfold upto
        rw [List.length_map, List.length_range]
        omega
      refine DR.forC_inv (fun i δ cs => ∃ cr left fs p5 p6 p7 p8 p9 p10, CrOk cr cs ∧ LI rs p i (cr.map (·.2)) left fs ∧ cr.length ≤ 500 ∧ fs.length ≤ i ∧ δ = stP (cr.map preD) n p left fs p5 p6 p7 p8 p9 p10) ⟨cr, p.n, [], none, none, none, none, none, none, hc, by rw [hrs]; exact LI.zero (fun r hr => (hb.ok r hr).2.2.1) ha ho.2.2.1, by omega, Nat.le_refl _, rfl⟩ ?_ ?_
      · rintro i x δ cs N2 hx ⟨cr, left, fs, p5, p6, p7, p8, p9, p10, hc, hI, hcr, hfs, rfl⟩ kN2
        have hi : i < rs.length + 1 := by rw [← hup]; exact DR.at_lt hx
        walk_at "dd"
        refine DR.seqC (DR.setC ⟨.lst (cr.map preD), .lst (rowO p), rowsN (cr.map (·.2)), rfl, rfl, Fill.lst hc.fill, cr.map (·.2), p, rfl, by rw [List.length_map]; omega, rfl, _, rfl, by cases bst p (cr.map (·.2)) <;> trivial, ?_⟩)
        with_reducible refine DR.seqC ?_
        with_reducible refine DR.upC ?_
        have hstop : ∀ (q5 q6 : Option DV), bst p (cr.map (·.2)) = none ∨ left = 0 → N (stP (cr.map preD) n p left fs q5 q6 p7 p8 p9 p10) cs := fun q5 q6 h => kN _ _ ⟨cr, left, fs, q5, q6, p7, p8, p9, p10, hc, hI.stop h, hcr, rfl⟩
        cases hq : bst p (cr.map (·.2)) with
        | none =>
          rw [show bD none = .non from rfl]
          walk_at "dd"
          refine ⟨true, rfl, ⟨fun _ => rfl, fun _ => rfl⟩, ?_⟩
          walk_at "dd"
          exact hstop _ _ (.inl hq)
        | some q =>
          rw [show bD (some q) = .int (q.1 : Int) from rfl]
          walk_at "dd"
          refine ⟨false, rfl, ⟨(fun h => nomatch h), (fun h => nomatch h)⟩, ?_⟩
          walk_at "dd"
          refine DR.split (fun c => ?_) (fun c => ?_)
          · walk_at "dd"
            exact hstop _ _ (.inr c)
          walk_at "dd"
          obtain ⟨⟨a, r⟩, hk, er⟩ := DR.map_at (bst_at hq).1
          obtain ⟨j, hj⟩ := List.mem_iff_getElem?.mp (hc.mem _ (List.mem_of_getElem? hk))
          have hj : cs[j]? = some (a, .lst (rowO r.2)) := hj
          have er : q.2 = r := er
          have hmin : (if r.2.n < left then r.2.n else left) = min left r.2.n := by omega
          have hsame : cs.set j ((a, r).fst, OC.lst (rowO r.2)) = cs := DR.cells_same hj
          with_reducible refine DR.seqC ?_
          with_reducible refine DR.upC ?_
          walk_at "dd"
          refine ⟨_, _, _, rfl, rfl, atI_map hk, ?_⟩
          walk_at "dd"
          refine ⟨_, _, .inl rfl, (by with_unfolding_all rfl), ?_⟩
          walk_at "dd"
          with_reducible refine DR.seqC ?_
          refine DR.withC rfl hj ?_
          walk_at "dd"
          rw [hsame]
          with_reducible refine DR.cutC (fun δ' cs' => cs = cs' ∧ δ' = [some (.own (.lst (cr.map preD))), some (.d (.int (n : Int))), some (.d (.lst (rowO p))), some (.d (.int left)), some (.own (.lst (fs.map flD))), some (.d x), some (.d (.int (q.1 : Int))), some (.d (.adr a)), some (.d (.int (min left r.2.n))), some (.d (.str (fillF p r.2 (min left r.2.n)).b)), some (.d (.str (fillF p r.2 (min left r.2.n)).s)), none]) (fun N3 kN3 => ?_) ?_
          · refine DR.withC rfl hj ?_
            walk_at "dd"
            refine ⟨_, _, .inl rfl, (by with_unfolding_all rfl), ?_⟩
            walk_at "dd"
            unfold fillF at kN3
            cases hpb : p.b with
            | true =>
              rw [hpb, if_pos rfl] at kN3
              rw [show decide (side true = Str.ofString "buy") = true from by decide]
              walk_at "dd"
              refine ⟨_, _, .inl rfl, (by with_unfolding_all rfl), ?_⟩
              walk_at "dd"
              exact kN3 _ _ ⟨hsame.symm, by rw [← hmin]; rfl⟩
            | false =>
              rw [hpb, if_neg Bool.false_ne_true] at kN3
              rw [show decide (side false = Str.ofString "buy") = false from by decide]
              walk_at "dd"
              refine ⟨_, _, .inl rfl, (by with_unfolding_all rfl), ?_⟩
              walk_at "dd"
              exact kN3 _ _ ⟨hsame.symm, by rw [← hmin]; rfl⟩
          rintro δ' cs' ⟨rfl, rfl⟩
          with_reducible refine DR.seqC ?_
          refine DR.withC rfl hj ?_
          walk_at "dd"
          refine ⟨_, _, .inl rfl, (by with_unfolding_all rfl), ?_⟩
          walk_at "dd"
          refine ⟨by show 5 ≤ sizeLine; decide, ?_⟩
          walk_at "dd"
          refine ⟨[_], _, rfl, rfl, _, rfl, by rw [List.length_map]; exact Nat.lt_of_le_of_lt (show fs.length ≤ 501 by omega) (by decide), ?_⟩
          walk_at "dd"
          rw [hsame]
          with_reducible refine DR.seqC ?_
          with_reducible refine DR.upC ?_
          walk_at "dd"
          with_reducible refine DR.seqC ?_
          refine DR.withC rfl hj ?_
          walk_at "dd"
          obtain ⟨r2, hr2⟩ : ∃ r2 : Rw, r2 = (r.1, { r.2 with n := r.2.n - min left r.2.n }) := ⟨_, rfl⟩
          obtain ⟨cs2, hcs2⟩ : ∃ cs2, cs2 = cs.set j (a, .lst (rowO r2.2)) := ⟨_, rfl⟩
          obtain ⟨cr2, hcr2⟩ : ∃ cr2, cr2 = cr.set q.1 (a, r2) := ⟨_, rfl⟩
          have hc2 : CrOk cr2 cs2 := by rw [hcr2, hcs2]; exact hc.set hk hj
          have hp2 : cr.map preD = cr2.map preD := by
            rw [hcr2, List.map_set]
            refine List.ext_getElem? fun i => ?_
            rw [List.getElem?_set]
            split
            · rename_i e
              subst e
              rw [if_pos (by rw [List.length_map]; exact set_lt hk), List.getElem?_map, hk, hr2]
              rfl
            · rfl
          have hl2 : cr2.length = cr.length := by rw [hcr2, List.length_set]
          with_reducible refine DR.setC ?_
          with_reducible refine DR.compC ?_
          walk_at "dd"
          rw [hp2]
          refine DR.lcC_inv (fun i acc δ cs => cs = cs2 ∧ δ = [some (.d (.lst (cr2.map preD))), some (.d (.int (n : Int))), some (.d (.lst (rowO p))), some (.d (.int (left - min left r.2.n))), some (.own (.lst (fs.map flD ++ [.tup [.str (fillF p r.2 (min left r.2.n)).b, .str (fillF p r.2 (min left r.2.n)).s, .str p.t, .int (min left r.2.n), .int r.2.l]]))), some (.d x), some (.d (.int (q.1 : Int))), some (.d (.adr a)), some (.d (.int (min left r.2.n))), some (.d (.str (fillF p r.2 (min left r.2.n)).b)), some (.d (.str (fillF p r.2 (min left r.2.n)).s)), none] ∧ acc = ((cr2.take i).filter fun z => decide (z.2.2.n > 0)).map preD) ⟨by rw [hcs2, hr2]; rfl, rfl, rfl⟩ ?_ ?_
          · rintro i y acc δ cs N4 hy ⟨rfl, rfl, rfl⟩ kN4
            obtain ⟨⟨b, r3⟩, hi3, rfl⟩ := DR.map_at hy
            walk_at "dd"
            refine DR.cmpC (DR.ixC ?_)
            walk_at "dd"
            refine ⟨_, _, .inl rfl, (by with_unfolding_all rfl), ?_⟩
            have h3 := hc2.mem _ (List.mem_of_getElem? hi3)
            have ht3 : cr2.take (i + 1) = cr2.take i ++ [(b, r3)] := by rw [List.take_add_one, hi3]; rfl
            have hlt : ((cr2.take i).filter fun z => decide (z.2.2.n > 0)).length ≤ 500 := Nat.le_trans (List.length_filter_le ..) (by rw [List.length_take]; omega)
            refine ⟨b, rowO r3.2, .int r3.2.n, rfl, h3, by with_unfolding_all rfl, r3.2.n, rfl, ?_⟩
            by_cases h0 : r3.2.n > 0
            · rw [decide_eq_true h0, if_pos rfl]
              refine DR.upE ?_
              walk_at "dd"
              refine ⟨by rw [List.length_map]; exact Nat.lt_of_le_of_lt hlt (by decide), kN4 _ _ _ ⟨rfl, rfl, ?_⟩⟩
              rw [ht3, List.filter_append, List.filter_cons_of_pos (by exact decide_eq_true h0), List.map_append]
              rfl
            · rw [decide_eq_false h0, if_neg Bool.false_ne_true]
              refine kN4 _ _ _ ⟨rfl, rfl, ?_⟩
              rw [ht3, List.filter_append, List.filter_cons_of_neg (by show ¬ decide (r3.2.n > 0) = true; rw [decide_eq_false h0]; exact Bool.false_ne_true)]
              simp
          · rintro acc δ cs ⟨rfl, rfl, rfl⟩
            rw [List.length_map, List.take_length]
            refine kN2 _ _ ⟨cr2.filter fun z => decide (z.2.2.n > 0), left - min left r.2.n, fs ++ [fillF p r.2 (min left r.2.n)], some (.d x), some (.d (.int (q.1 : Int))), some (.d (.adr a)), some (.d (.int (min left r.2.n))), some (.d (.str (fillF p r.2 (min left r.2.n)).b)), some (.d (.str (fillF p r.2 (min left r.2.n)).s)), hc2.sub List.filter_sublist, ?_, Nat.le_trans (List.length_filter_le ..) (by omega), by rw [List.length_append, List.length_singleton]; omega, ?_⟩
            · have h5 := hI.step hq c
              rw [er] at h5
              have e5 : (cr2.filter fun z => decide (z.2.2.n > 0)).map (·.2) = cutR (cr.map (·.2)) q.1 r (min left r.2.n) := by
                unfold cutR
                rw [← hr2, show (cr.map (·.2)).set q.1 r2 = cr2.map (·.2) from by rw [hcr2, List.map_set], List.filter_map]
                rfl
              rw [e5]
              exact h5
            · have e6 : flD (fillF p r.2 (min left r.2.n)) = .tup [.str (fillF p r.2 (min left r.2.n)).b, .str (fillF p r.2 (min left r.2.n)).s, .str p.t, .int (min left r.2.n), .int r.2.l] := by
                unfold fillF
                cases p.b <;> rfl
              show _ = [_, _, _, _, some (DV.own (OC.lst ((fs ++ [fillF p r.2 (min left r.2.n)]).map flD))), _, _, _, _, _, _, _]
              rw [List.map_append, List.map_singleton, e6]
              rfl
      · rintro δ cs ⟨cr, left, fs, p5, p6, p7, p8, p9, p10, hc, hI, hcr, hfs, rfl⟩
        rw [hup] at hI
        exact kN _ _ ⟨cr, left, fs, p5, p6, p7, p8, p9, p10, hc, hI.last, hcr, rfl⟩
    · rintro δ cs ⟨cr, left, fs, p5, p6, p7, p8, p9, p10, hc, hB, hcr, rfl⟩
      have hleft : leftF rs p = left := ((mat_ok rs p).le.symm).trans hB.le.symm
      refine DR.seqC (DR.upC ?_)
      walk_at "dd"
      refine DR.split (fun c => ?_) (fun c => ?_)
      · walk_at "dd"
        refine ⟨_, _, .inl rfl, (by with_unfolding_all rfl), ?_⟩
        walk_at "dd"
        rw [show DL.cutD (rowO p) none (some 3) = [.str p.m, .str p.t, .str (side p.b)] from by with_unfolding_all rfl]
        refine ⟨by show 5 ≤ sizeLine; decide, ?_⟩
        walk_at "dd"
        refine ⟨[_], _, rfl, rfl, _, rfl, by rw [List.length_map]; exact Nat.lt_of_le_of_lt hcr (by decide), ?_⟩
        walk_at "dd"
        with_reducible refine DR.upC ?_
        walk_at "dd"
        refine ⟨_, fs.map flD, rfl, .inl rfl, ?_⟩
        walk_at "dd"
        have epl : placeR rs n p = cr.map (·.2) ++ [((n : Int), { p with n := left })] := by
          unfold placeR
          rw [if_pos (by rw [hleft]; exact c), hleft, ← hB.rs]
        refine ⟨_, .tup [rowsN (placeR rs n p), fsD (mat rs p).fs], rfl, Fill.tup (.cons (Fill.lst ?_) (.cons ?_ .nil)), ?_⟩
        · rw [epl, List.map_append]
          exact FillL.app hc.fill (by rw [List.length_map, List.length_map, List.length_map]) (.cons Fill.refl .nil)
        · rw [← hB.fs]
          exact Fill.refl
        · exact ⟨_, rfl, k⟩
      · walk_at "dd"
        with_reducible refine DR.upC ?_
        walk_at "dd"
        refine ⟨_, fs.map flD, rfl, .inl rfl, ?_⟩
        walk_at "dd"
        have epl : placeR rs n p = cr.map (·.2) := by
          unfold placeR
          rw [if_neg (by rw [hleft]; exact c), ← hB.rs]
        refine ⟨_, .tup [rowsN (placeR rs n p), fsD (mat rs p).fs], rfl, Fill.tup (.cons (Fill.lst ?_) (.cons ?_ .nil)), ?_⟩
        · rw [epl]
          exact hc.fill
        · rw [← hB.fs]
          exact Fill.refl
        · exact ⟨_, rfl, k⟩
end
end KT

set_option Elab.async false
set_option linter.all false
set_option maxRecDepth 100000
set_option maxHeartbeats 0
set_option pp.deepTerms false
set_option pp.deepTerms.threshold 8


namespace KT
open PySem PySem.Spec PyProof.Rows L2 DL
/-! ranked rows, levels -/
def kyN (b : Bool) : D → Int × Int
  | .lst [.int i, .lst [_, _, _, _, .int l]] => (-sgn b * l, i)
  | _ => (0, 0)
theorem rank_sort (rs : List Rw) (t : Str) (b : Bool) : ((rs.filter fun r => decide (r.2.t = t) && decide (r.2.b = b)).map rowN).mergeSort (le2 (kyN b)) = (sideR rs t b).map rowN := by
  unfold sideR
  refine (List.map_mergeSort fun a ha c hc => ?_).symm
  have h1 : a.2.b = b := of_decide_eq_true (Bool.and_eq_true_iff.mp (List.mem_filter.mp ha).2).2
  have h2 : c.2.b = b := of_decide_eq_true (Bool.and_eq_true_iff.mp (List.mem_filter.mp hc).2).2
  show le2 kyR a c = le2 (kyN b) (rowN a) (rowN c)
  have e1 : kyN b (rowN a) = kyR a := by show (-sgn b * a.2.l, a.1) = (-sgn a.2.b * a.2.l, a.1); rw [h1]
  have e2 : kyN b (rowN c) = kyR c := by show (-sgn b * c.2.l, c.1) = (-sgn c.2.b * c.2.l, c.1); rw [h2]
  unfold le2
  rw [e1, e2]
/-- the limits in the order in which they come first -/
def limS (rs : List Rw) : List Int := rs.foldl (fun acc r => if r.2.l ∈ acc then acc else acc ++ [r.2.l]) []
def sumL (rs : List Rw) (l : Int) : Int := ((rs.filter fun r => decide (r.2.l = l)).map (·.2.n)).sum
theorem limS_snoc (rs : List Rw) (r : Rw) : limS (rs ++ [r]) = if r.2.l ∈ limS rs then limS rs else limS rs ++ [r.2.l] := by
  unfold limS
  rw [List.foldl_append]
  rfl
theorem snoc_ind {α : Type} {p : List α → Prop} (h0 : p []) (hs : ∀ l a, p l → p (l ++ [a])) : ∀ l, p l := fun l => by
  have go : ∀ n, ∀ l : List α, l.length = n → p l := fun n => by
    induction n with
    | zero => intro l e; rw [List.length_eq_zero_iff.mp e]; exact h0
    | succ n ih =>
      intro l e
      have hne : l ≠ [] := fun z => by rw [z] at e; cases e
      rw [← List.dropLast_concat_getLast hne]
      exact hs _ _ (ih _ (by rw [List.length_dropLast, e]; rfl))
  exact go _ l rfl
theorem limS_mem (rs : List Rw) : ∀ l, l ∈ limS rs ↔ ∃ r ∈ rs, r.2.l = l := by
  refine snoc_ind (p := fun rs : List Rw => ∀ l, l ∈ limS rs ↔ ∃ r ∈ rs, r.2.l = l) (fun l => ⟨(fun h => nomatch h), fun ⟨r, h, _⟩ => nomatch h⟩) (fun rs a ih l => ?_) rs
  rw [limS_snoc]
  split
  · rename_i h
    rw [ih l]
    refine ⟨fun ⟨r, hr, e⟩ => ⟨r, List.mem_append_left _ hr, e⟩, fun ⟨r, hr, e⟩ => ?_⟩
    rcases List.mem_append.mp hr with hr | hr
    · exact ⟨r, hr, e⟩
    · rw [List.mem_singleton.mp hr] at e
      rw [← e]
      exact (ih _).mp h
  · rw [List.mem_append, List.mem_singleton, ih l]
    constructor
    · rintro (⟨r, hr, e⟩ | e)
      · exact ⟨r, List.mem_append_left _ hr, e⟩
      · exact ⟨a, List.mem_append_right _ (List.mem_singleton.mpr rfl), e.symm⟩
    · rintro ⟨r, hr, e⟩
      rcases List.mem_append.mp hr with hr | hr
      · exact .inl ⟨r, hr, e⟩
      · rw [List.mem_singleton.mp hr] at e
        exact .inr e.symm
theorem sumL_snoc (rs : List Rw) (a : Rw) (l : Int) : sumL (rs ++ [a]) l = sumL rs l + (if a.2.l = l then a.2.n else 0) := by
  unfold sumL
  rw [List.filter_append, List.map_append, List.sum_append]
  congr 1
  by_cases h : a.2.l = l
  · rw [if_pos h, List.filter_cons_of_pos (by exact decide_eq_true h)]
    simp
  · rw [if_neg h, List.filter_cons_of_neg (by simp [h])]
    rfl
theorem limS_nd (rs : List Rw) : (limS rs).Nodup := by
  refine snoc_ind (p := fun rs : List Rw => (limS rs).Nodup) .nil (fun rs a ih => ?_) rs
  rw [limS_snoc]
  split
  · exact ih
  · rename_i h
    exact List.nodup_append.mpr ⟨ih, List.nodup_cons.mpr ⟨(fun z => nomatch z), .nil⟩, fun x hx y hy e => by rw [List.mem_singleton.mp hy] at e; rw [e] at hx; exact h hx⟩
theorem lv_eq (rs : List Rw) : lvF rs = (limS rs).map fun l => (l, sumL rs l) := by
  refine snoc_ind (p := fun rs : List Rw => lvF rs = (limS rs).map fun l => (l, sumL rs l)) rfl (fun rs a ih => ?_) rs
  have e1 : lvF (rs ++ [a]) = stepL (lvF rs) a := by
    unfold lvF
    rw [List.foldl_append]
    rfl
  have hget : getI (lvF rs) a.2.l = if a.2.l ∈ limS rs then sumL rs a.2.l else 0 := by
    rw [ih]
    unfold getI
    rw [List.find?_map]
    have : ∀ ls : List Int, ls.find? ((fun p : Int × Int => decide (p.1 = a.2.l)) ∘ fun l => (l, sumL rs l)) = if a.2.l ∈ ls then some a.2.l else none := fun ls => by
      induction ls with
      | nil => rfl
      | cons x ls ih2 =>
        by_cases hx : x = a.2.l
        · rw [List.find?_cons_of_pos (by exact decide_eq_true hx), if_pos (by rw [hx]; exact List.mem_cons_self), hx]
        · rw [List.find?_cons_of_neg (by simp [hx]), ih2]
          by_cases hm : a.2.l ∈ ls
          · rw [if_pos hm, if_pos (List.mem_cons_of_mem _ hm)]
          · rw [if_neg hm, if_neg fun z => (List.mem_cons.mp z).elim (fun z => hx z.symm) hm]
    rw [this]
    by_cases hm : a.2.l ∈ limS rs
    · rw [if_pos hm, if_pos hm]
      rfl
    · rw [if_neg hm, if_neg hm]
      rfl
  have hany : ((lvF rs).any fun p => decide (p.1 = a.2.l)) = decide (a.2.l ∈ limS rs) := by
    rw [ih, List.any_map]
    rw [Bool.eq_iff_iff, List.any_eq_true, decide_eq_true_iff]
    exact ⟨fun ⟨x, hx, e⟩ => by rw [← of_decide_eq_true e]; exact hx, fun h => ⟨_, h, decide_eq_true rfl⟩⟩
  rw [e1, limS_snoc]
  unfold stepL putI
  rw [hany, hget]
  by_cases hm : a.2.l ∈ limS rs
  · rw [if_pos (decide_eq_true hm), if_pos hm, if_pos hm, ih, List.map_map]
    refine List.map_congr_left fun l hl => ?_
    show (if l = a.2.l then (l, sumL rs a.2.l + a.2.n) else (l, sumL rs l)) = (l, sumL (rs ++ [a]) l)
    rw [sumL_snoc]
    by_cases h : l = a.2.l
    · rw [if_pos h, if_pos h.symm, h]
    · rw [if_neg h, if_neg fun z => h z.symm, Int.add_zero]
  · rw [if_neg (by rw [decide_eq_false hm]; exact Bool.false_ne_true), if_neg hm, if_neg hm, List.map_append, ih]
    congr 1
    · refine List.map_congr_left fun l hl => ?_
      rw [sumL_snoc, if_neg fun z => hm (by rw [z]; exact hl), Int.add_zero]
    · show [(a.2.l, (0 : Int) + a.2.n)] = [(a.2.l, sumL (rs ++ [a]) a.2.l)]
      rw [sumL_snoc, if_pos rfl]
      have : sumL rs a.2.l = 0 := by
        unfold sumL
        rw [List.filter_eq_nil_iff.mpr fun r hr e => hm ((limS_mem rs _).mpr ⟨r, hr, of_decide_eq_true e⟩)]
        rfl
      rw [this]
theorem limS_len (rs : List Rw) : (limS rs).length ≤ rs.length := by
  refine snoc_ind (p := fun rs : List Rw => (limS rs).length ≤ rs.length) (Nat.le_refl _) (fun rs a ih => ?_) rs
  rw [limS_snoc, List.length_append]
  split
  · exact Nat.le_trans ih (Nat.le_add_right _ _)
  · rw [List.length_append]
    exact Nat.add_le_add_right ih 1
theorem any_int {l : Int} : ∀ {ls : List Int}, ((pyL (ls.map .int)).any fun z => PyData.eqv z (D.int l).py) = decide (l ∈ ls)
  | [] => by simp [pyL]
  | x :: ls => by
    have ih := any_int (l := l) (ls := ls)
    show (PyData.eqv (.int x) (.int l) || ((pyL (ls.map .int)).any fun z => PyData.eqv z (D.int l).py)) = _
    rw [ih]
    show (decide (x = l) || decide (l ∈ ls)) = decide (l ∈ x :: ls)
    rw [Bool.eq_iff_iff, Bool.or_eq_true, decide_eq_true_iff, decide_eq_true_iff, decide_eq_true_iff, List.mem_cons]
    exact ⟨fun h => h.imp Eq.symm id, fun h => h.imp Eq.symm id⟩
section
variable {P : Program} {w : World} {K : PySem.W.Frag} {mg : Str → Option Value} {base : Heap} {C OB NO : Addr}
abbrev lamQ : Str := "_law_ranked.<locals>.<lambda>"
def sdRanked : SpD := fun as Q _ => ∃ (rs : List Rw) (t : Str) (b : Bool), as = [.d (rowsN rs), .d (.str t), .d (.str (side b))] ∧ rs.length ≤ 1000 ∧ Q (.own (.lst ((sideR rs t b).map rowN))) []
abbrev s_law_ranked : Stmt := top 36
theorem sc_law_ranked : FnScope ["rows", "thing", "side", "sign", "some", "one"] ["rows", "thing", "side"] (defScope s_law_ranked) := ⟨rfl, rfl, rfl, by decide +kernel, rfl, by decide +kernel, by decide +kernel⟩
theorem ok_ranked {f ca PT : Addr} {fd : FuncData} (TB : LamX.TabB base mg ca PT) (hfc : fd.code = .ref ca) (G : Fun K "_law_ranked" "_law_ranked" s_law_ranked f fd) (T : TxtO K mg C) : FnOk P w K mg base (L2.CX P w) 5 f fd ["rows", "thing", "side"] (spG K PT lamQ sdRanked) := by
  refine okG G sc_law_ranked [] (fun as Q E ⟨rs, t, b, e, _⟩ => by subst e; exact ⟨rfl, rfl⟩) ⟨_, fun cdv A outer s H E ad F0 H0 hcd hr => (pdsc_cons (psc_up (psd_set (i := 3) (pd_ifExp (ptd_cmp op_eq op2_eq.op (pd_var (pv 2)) (pd_const pe_str (fun _ => .str (by decide +kernel))) (nomark _)) (pd_neg (pd_const pe_int (fun _ => .int _))) (pd_const pe_int (fun _ => .int _))) (by show ¬ (3 ∈ ([] : List Nat)); decide) sc_law_ranked.nd rfl (.inr rfl)))
      (pdsc_cons (psc_up (psd_setLc (i := 4) (o := false) (own := [("one", 5)]) (by show ¬ (4 ∈ ([] : List Nat)); decide) (by rfl) sc_law_ranked.nd rfl rfl (sw_true rfl rfl rfl (by decide +kernel)) (pid_list (pd_var (pv 0))) (blkOk_by (own := [("one", 5)]) (N := ["rows", "thing", "side", "sign", "some", "one"]) (sc := defScope s_law_ranked) (by decide +kernel)) (fun _ _ _ _ _ => (pgd_name (i := 5) (vs := [5]) (pg_name (i := 5) sc_law_ranked.nd rfl (.inl rfl)) (by show ¬ (5 ∈ ([] : List Nat)); decide) (by decide))) (fun _ _ _ _ _ => ptsd_one (PW.pt (pwd_and (ptd_cmp op_eq op2_eq.op (pd_ix ix_list op2_ixL (pd_ix ix_list op2_ixL (pd_var (pv 5)) (pd_const pe_int (fun _ => .int _)) (fun _ _ => rfl)) (pd_const pe_int (fun _ => .int _)) (fun _ _ => rfl)) (pd_var (pv 1)) (nomark _)) (pwd_and1 (ptd_cmp op_eq op2_eq.op (pd_ix ix_list op2_ixL (pd_ix ix_list op2_ixL (pd_var (pv 5)) (pd_const pe_int (fun _ => .int _)) (fun _ _ => rfl)) (pd_const pe_int (fun _ => .int _)) (fun _ _ => rfl)) (pd_var (pv 2)) (nomark _)))))) (fun _ _ _ _ _ => (pd_var (pv 5))) (by show ∀ i ∈ ([5] : List Nat), ¬ (i ∈ ([] : List Nat)); decide)))
      (pdsc_one (psc_ret (pec_sortL (q := lamQ) (k := 0) (a := "one") (i := 5) TB (hcd.symm.trans hfc) (by with_unfolding_all rfl) (LamY.lamS1_by (sc := defScope s_law_ranked) (by decide +kernel)) (by rfl) (fun _ _ _ _ _ => by rfl) (hr.mono (by decide)) sc_law_ranked.nd rfl (fun c0 A s H f c' h0 hr => (pd_tup (fun h => pe_tup h) (pda_cons (pd_op op_mul (op2_I fun _ _ _ => .int _) (pd_var (pv 3)) (pd_ix ix_list op2_ixL (pd_ix ix_list op2_ixL (pd_var (pv 5)) (pd_const pe_int (fun _ => .int _)) (fun _ _ => rfl)) (pd_const pe_int (fun _ => .int _)) (fun _ _ => rfl))) (pda_cons (pd_ix ix_list op2_ixL (pd_var (pv 5)) (pd_const pe_int (fun _ => .int _)) (fun _ _ => rfl)) pda_nil)))) (by rfl) T.b_sorted (pd_var (pv 4)) (by rfl) (by rfl) (by rfl) (by rfl) (by rfl)))))), ?_⟩
  rintro as Qd Ed ⟨rs, t, b, rfl, hl, k⟩
  show seqC _ _ _ [some (.d (rowsN rs)), some (.d (.str t)), some (.d (.str (side b))), none, none, none] _
  with_reducible refine DR.cutC (fun δ cs => cs = [(PT, .tab PT lamQ)] ∧ δ = [some (.d (rowsN rs)), some (.d (.str t)), some (.d (.str (side b))), some (.d (.int (-sgn b))), none, none]) (fun N kN => ?_) ?_
  · refine DR.upC ?_
    walk_at "dd"
    cases b with
    | true =>
      rw [show decide (side true = Str.ofString "buy") = true from by decide]
      walk_at "dd"
      exact kN _ _ ⟨rfl, rfl⟩
    | false =>
      rw [show decide (side false = Str.ofString "buy") = false from by decide]
      walk_at "dd"
      exact kN _ _ ⟨rfl, rfl⟩
  rintro δ cs ⟨rfl, rfl⟩
  with_reducible refine DR.cutC (fun δ cs => cs = [(PT, .tab PT lamQ)] ∧ δ = [some (.d (rowsN rs)), some (.d (.str t)), some (.d (.str (side b))), some (.d (.int (-sgn b))), some (.d (.lst ((rs.filter fun r => decide (r.2.t = t) && decide (r.2.b = b)).map rowN))), none]) (fun N kN => ?_) ?_
  · refine DR.upC ?_
    walk_at "dd"
    refine DR.lc_filterM (fun r => if (decide (r.2.t = t) && decide (r.2.b = b)) = true then some (rowN r) else none) (fun r acc N2 hr hlt kN2 => ?_) ?_
    · walk_at "dd"
      iterate 2 (refine ⟨_, _, .inl rfl, (by with_unfolding_all rfl), ?_⟩; walk_at "dd")
      by_cases h1 : r.2.t = t
      · rw [decide_eq_true h1, Bool.true_and] at kN2
        refine DR.split (fun _ => ?_) (fun c => absurd h1 c)
        walk_at "dd"
        iterate 2 (refine ⟨_, _, .inl rfl, (by with_unfolding_all rfl), ?_⟩; walk_at "dd")
        by_cases h2 : r.2.b = b
        · rw [decide_eq_true h2, if_pos rfl] at kN2
          refine DR.split (fun _ => ?_) (fun c => absurd (congrArg side h2) c)
          walk_at "dd"
          exact ⟨Nat.lt_of_lt_of_le hlt (Nat.le_trans hl (by decide)), kN2⟩
        · rw [decide_eq_false h2, if_neg Bool.false_ne_true, Option.toList_none, List.append_nil] at kN2
          refine DR.split (fun c => absurd (side_ne c) h2) (fun _ => ?_)
          walk_at "dd"
          exact kN2
      · rw [decide_eq_false h1, Bool.false_and, if_neg Bool.false_ne_true, Option.toList_none, List.append_nil] at kN2
        refine DR.split (fun c => absurd c h1) (fun _ => ?_)
        walk_at "dd"
        exact kN2
    · rw [filterMap_if (c := fun r : Rw => decide (r.2.t = t) && decide (r.2.b = b)) (g := rowN)]
      walk_at "dd"
      exact kN _ _ ⟨rfl, rfl⟩
  rintro δ cs ⟨rfl, rfl⟩
  refine DR.retC (DR.sortL ?_)
  walk_at "dd"
  refine ⟨_, kyN b, rfl, List.mem_singleton.mpr rfl, fun d hd => ?_, ?_⟩
  · obtain ⟨r, hr, rfl⟩ := List.mem_map.mp hd
    have cm : ∀ l : Int, CMul (-sgn b) l := fun l => by cases b <;> exact RD9.mull (by decide) (by decide)
    show tupD _ [some (.d (rowsN rs)), some (.d (.str t)), some (.d (.str (side b))), some (.d (.int (-sgn b))), some (.d (.lst ((rs.filter fun r => decide (r.2.t = t) && decide (r.2.b = b)).map rowN))), some (.d (rowN r))] _ _
    walk_at "dd"
    iterate 2 (refine ⟨_, _, .inl rfl, (by with_unfolding_all rfl), ?_⟩; walk_at "dd")
    refine ⟨cm _, ?_⟩
    walk_at "dd"
    refine ⟨_, _, .inl rfl, (by with_unfolding_all rfl), ?_⟩
    walk_at "dd"
    rfl
  · rw [rank_sort]
    exact ⟨rfl, _, rfl, k⟩
abbrev s_law_levels : Stmt := top 37
theorem sc_law_levels : FnScope ["ranked", "found", "one", "limit"] ["ranked"] (defScope s_law_levels) := ⟨rfl, rfl, rfl, by decide +kernel, rfl, by decide +kernel, by decide +kernel⟩
def sdLLevels : SpD := fun as Q _ => ∃ rs : List Rw, as = [.d (rowsN rs)] ∧ rs.length ≤ 1000 ∧ Q (.d (.tup ((lvF rs).map prI))) []
theorem ok_levelsL {f : Addr} {fd : FuncData} (G : Fun K "_law_levels" "_law_levels" s_law_levels f fd) (T : TxtO K mg C) : FnOk P w K mg base (L2.CX P w) 3 f fd ["ranked"] (spOf K sdLLevels) := by
  refine okD G sc_law_levels [] (fun as Q E ⟨rs, e, _⟩ => by subst e; exact ⟨rfl, rfl⟩) ⟨_, fun cdv A outer s H E ad F0 H0 hr => (pds_cons (psd_setO (i := 1) (pd_lst (fun h => pe_lst h) pda_nil) (by show ¬ (1 ∈ ([] : List Nat)); decide) sc_law_levels.nd rfl (.inl rfl))
      (pds_cons (psd_for (passes_of rfl) rfl (pid_list (pd_var (pv 0))) (pgd_name (i := 2) (vs := [2]) (pg_name (i := 2) sc_law_levels.nd rfl (.inl rfl)) (by show ¬ (2 ∈ ([] : List Nat)); decide) (by decide))
      (pds_one (psd_if (ptd_inLO_f (j := 1) (units65 hr) (pd_ix ix_list op2_ixL (pd_ix ix_list op2_ixL (pd_var (pv 2)) (pd_const pe_int (fun _ => .int _)) (fun _ _ => rfl)) (pd_const pe_int (fun _ => .int _)) (fun _ _ => rfl)) (pv 1)) (pds_one (psd_expr (pd_methO (j := 1) (fun ho h => pe_bm PySem.F.plainAttrs_list PySem.F.slot_list_append PySem.F.type_list_append mt_append ho h) mo_append (pv 1) (pda_cons (pd_ix ix_list op2_ixL (pd_ix ix_list op2_ixL (pd_var (pv 2)) (pd_const pe_int (fun _ => .int _)) (fun _ _ => rfl)) (pd_const pe_int (fun _ => .int _)) (fun _ _ => rfl)) pda_nil)))) pds_nil)))
      (pds_one (psd_ret (pd_builtB (fun h => pe_callTy call_tuple_of (by rfl) T.b_tuple (by decide +kernel) h) cn_tuple (pda_cons (pd_lc (own := [("limit", 3)]) (by rfl) sc_law_levels.nd (pid_list (pd_fvar (i := 1) (pv 1) (by show ¬ (1 ∈ ([] : List Nat)); decide))) (blkOk_by (own := [("limit", 3)]) (N := ["ranked", "found", "one", "limit"]) (sc := defScope s_law_levels) (by decide +kernel)) (fun _ _ _ _ _ => (pgd_name (i := 3) (vs := [3]) (pg_name (i := 3) sc_law_levels.nd rfl (.inr rfl)) (by show ¬ (3 ∈ ([] : List Nat)); decide) (by decide))) (fun _ _ _ _ _ => ptsd_nil) (fun _ _ _ _ _ => (pd_tup (fun h => pe_tup h) (pda_cons (pd_var (pv 3)) (pda_cons (pd_builtB (fun h => pe_callB (cr_sum rfl) (by rfl) T.b_sum (by decide +kernel) h) cn_sum.op (pda_cons (pd_lc (own := [("one", 2)]) (by rfl) sc_law_levels.nd (pid_list (pd_var (pv 0))) (blkOk_by (own := [("one", 2)]) (N := ["ranked", "found", "one", "limit"]) (by with_unfolding_all rfl)) (fun _ _ _ _ _ => (pgd_name (i := 2) (vs := [2]) (pg_name (i := 2) sc_law_levels.nd rfl (.inl rfl)) (by show ¬ (2 ∈ ([] : List Nat)); decide) (by decide))) (fun _ _ _ _ _ => ptsd_one (ptd_cmp op_eq op2_eq.op (pd_ix ix_list op2_ixL (pd_ix ix_list op2_ixL (pd_var (pv 2)) (pd_const pe_int (fun _ => .int _)) (fun _ _ => rfl)) (pd_const pe_int (fun _ => .int _)) (fun _ _ => rfl)) (pd_var (pv 3)) (nomark _))) (fun _ _ _ _ _ => (pd_ix ix_list op2_ixL (pd_ix ix_list op2_ixL (pd_var (pv 2)) (pd_const pe_int (fun _ => .int _)) (fun _ _ => rfl)) (pd_const pe_int (fun _ => .int _)) (fun _ _ => rfl))) (by show ∀ i ∈ ([2] : List Nat), ¬ (i ∈ ([] : List Nat)); decide)) pda_nil)) pda_nil)))) (by show ∀ i ∈ ([3] : List Nat), ¬ (i ∈ ([] : List Nat)); decide)) pda_nil)))))), ?_⟩
  rintro as Qd Ed ⟨rs, rfl, hl, k⟩
  refine DR.start (δ' := [some (.d (rowsN rs)), none, none, none]) rfl ?_
  walk_at "dd"
  refine DR.for_inv (fun i δ => ∃ p2, δ = [some (.d (rowsN rs)), some (.own (.lst ((limS (rs.take i)).map .int))), p2, none]) ⟨none, rfl⟩ ?_ ?_
  · rintro i x δ N hx ⟨p2, rfl⟩ kN
    obtain ⟨r, hri, rfl⟩ := DR.map_at hx
    have ht : rs.take (i + 1) = rs.take i ++ [r] := by rw [List.take_add_one, hri]; rfl
    have hany : ((pyL ((limS (rs.take i)).map .int)).any fun z => PyData.eqv z (D.int r.2.l).py) = decide (r.2.l ∈ limS (rs.take i)) := any_int
    walk_at "dd"
    iterate 2 (refine ⟨_, _, .inl rfl, (by with_unfolding_all rfl), ?_⟩; walk_at "dd")
    refine ⟨dp_int.cmp, (dp_lst (n := 1) (dp_map fun r _ => dp_int)).cmp, ?_⟩
    rw [show ((pyL ((limS (rs.take i)).map D.int)).any fun z_1 => z_1.eqv ((DV.d (D.int r.2.l)).toD).py) = decide (r.2.l ∈ limS (rs.take i)) from hany]
    have hlt : (limS (rs.take i)).length ≤ 1000 := Nat.le_trans (limS_len _) (by rw [List.length_take]; omega)
    rw [ht, limS_snoc] at kN
    by_cases hm : r.2.l ∈ limS (rs.take i)
    · rw [if_pos hm] at kN
      rw [decide_eq_true hm]
      walk_at "dd"
      exact kN _ ⟨_, rfl⟩
    · rw [if_neg hm] at kN
      rw [decide_eq_false hm, show (true != false) = true from rfl]
      walk_at "dd"
      iterate 2 (refine ⟨_, _, .inl rfl, (by with_unfolding_all rfl), ?_⟩; walk_at "dd")
      refine ⟨[_], _, rfl, rfl, _, rfl, by rw [List.length_map]; exact Nat.lt_of_le_of_lt hlt (by decide), ?_⟩
      walk_at "dd"
      refine kN _ ⟨some (.d (rowN r)), ?_⟩
      rw [List.map_append]
      rfl
  · rintro δ ⟨p2, rfl⟩
    rw [List.length_map, List.take_length]
    walk_at "dd"
    refine DR.lc_inv (fun i acc δ => acc = ((limS rs).take i).map (fun l => D.tup [.int l, .int (sumL rs l)]) ∧ ∃ p2, δ = [some (.d (rowsN rs)), some (.d (.lst ((limS rs).map .int))), p2, none]) ⟨by rw [List.take_zero]; rfl, p2, rfl⟩ (fun i x acc δ N hx ⟨eacc, p2, eδ⟩ kN => ?_) ?_
    · subst eacc
      subst eδ
      obtain ⟨l, hli, rfl⟩ := DR.map_at hx
      have hlt : i < (limS rs).length := DR.at_lt hli
      have ht : ((limS rs).take (i + 1)).map (fun l => D.tup [.int l, .int (sumL rs l)]) = ((limS rs).take i).map (fun l => D.tup [.int l, .int (sumL rs l)]) ++ [D.tup [.int l, .int (sumL rs l)]] := by rw [List.take_add_one, hli, List.map_append]; rfl
      walk_at "dd"
      refine DR.lc_filterM (fun r => if decide (r.2.l = l) = true then some (.int r.2.n) else none) (fun r acc2 N2 hr hlt2 kN2 => ?_) ?_
      · walk_at "dd"
        iterate 2 (refine ⟨_, _, .inl rfl, (by with_unfolding_all rfl), ?_⟩; walk_at "dd")
        by_cases h : r.2.l = l
        · rw [decide_eq_true h, if_pos rfl] at kN2
          refine DR.split (fun _ => ?_) (fun c => absurd h c)
          walk_at "dd"
          iterate 2 (refine ⟨_, _, .inl rfl, (by with_unfolding_all rfl), ?_⟩; walk_at "dd")
          exact ⟨Nat.lt_of_lt_of_le hlt2 (Nat.le_trans hl (by decide)), kN2⟩
        · rw [decide_eq_false h, if_neg Bool.false_ne_true, Option.toList_none, List.append_nil] at kN2
          refine DR.split (fun c => absurd c h) (fun _ => ?_)
          walk_at "dd"
          exact kN2
      · rw [filterMap_if (c := fun r : Rw => decide (r.2.l = l)) (g := fun r => D.int r.2.n)]
        walk_at "dd"
        refine ⟨(rs.filter fun r => decide (r.2.l = l)).map (·.2.n), .inl (by rw [List.map_map]; rfl), ?_⟩
        walk_at "dd"
        refine ⟨by rw [List.length_map, List.length_take]; exact Nat.lt_of_le_of_lt (Nat.min_le_left ..) (Nat.lt_of_lt_of_le hlt (Nat.le_trans (limS_len rs) (Nat.le_trans hl (by decide)))), kN _ _ ⟨ht.symm, none, rfl⟩⟩
    · rintro acc δ ⟨rfl, p2, rfl⟩
      rw [List.length_map, List.take_length]
      walk_at "dd"
      refine ⟨_, _, rfl, .inl rfl, ?_⟩
      walk_at "dd"
      have e : (limS rs).map (fun l => D.tup [.int l, .int (sumL rs l)]) = (lvF rs).map prI := by
        rw [lv_eq, List.map_map]
        rfl
      rw [e]
      exact k
end
end KT

set_option Elab.async false
set_option linter.all false
set_option maxRecDepth 100000
set_option maxHeartbeats 0
set_option pp.deepTerms false
set_option pp.deepTerms.threshold 8


namespace KT
open PySem PySem.Spec PyProof.Rows L2 DL
/-! cancelling, told by the plain rows -/
theorem cmp_rowsN {rs : List Rw} : Cmp (rowsN rs) := (dp_lst (n := 3) (dp_map fun r _ => dp_lst (n := 2) (ds := [.int r.1, .lst (rowO r.2)]) fun d hd => by
  simp only [List.mem_cons, List.not_mem_nil, or_false] at hd
  rcases hd with rfl | rfl
  · exact dp_int.le (by decide)
  · refine dp_lst (n := 1) fun d hd => ?_
    simp only [rowO, rowL, List.mem_cons, List.not_mem_nil, or_false] at hd
    rcases hd with rfl | rfl | rfl | rfl | rfl
    · exact dp_str.le (by decide)
    · exact dp_str.le (by decide)
    · exact dp_str.le (by decide)
    · exact dp_int.le (by decide)
    · exact dp_int.le (by decide))).cmp
theorem find_row {rs : List Rw} {i : Nat} {r : Rw} (nd : (rs.map (·.1)).Nodup) (h : rs[i]? = some r) : findR rs (.int r.1) = some r := by
  show rs.find? (fun x => decide (x.1 = r.1)) = some r
  induction rs generalizing i with
  | nil => cases h
  | cons a l ih =>
    rw [List.map_cons, List.nodup_cons] at nd
    cases i with
    | zero =>
      cases h
      exact List.find?_cons_of_pos (decide_eq_true rfl)
    | succ i =>
      have hm := List.mem_of_getElem? (show l[i]? = some r from h)
      have ne : a.1 ≠ r.1 := fun e => nd.1 (by rw [e]; exact List.mem_map.mpr ⟨r, hm, rfl⟩)
      rw [List.find?_cons_of_neg (p := fun x : Rw => decide (x.1 = r.1)) (by rw [decide_eq_false ne]; exact Bool.false_ne_true)]
      exact ih nd.2 h
theorem cmp_e : Cmp (.ro []) ∧ Cmp (.lst []) := ⟨⟨rfl, by simp [D.py, pyL, PyData.depth, PyData.depthAll]⟩, ⟨rfl, by simp [D.py, pyL, PyData.depth, PyData.depthAll]⟩⟩
theorem eqv_rows0 {rs : List Rw} (h : rs ≠ []) : PyData.eqv (rowsN rs).py (D.lst []).py = false := by
  cases rs with
  | nil => exact absurd rfl h
  | cons r rs => rfl
theorem scL_ints : ∀ {rs : List Rw}, scL (rs.map fun r => D.int r.1) = some (rs.map fun r => V.int r.1)
  | [] => rfl
  | r :: rs => by
    show (match D.sc (.int r.1), scL (rs.map fun r => D.int r.1) with
      | some v, some vs => some (v :: vs)
      | _, _ => none) = _
    rw [scL_ints]
    rfl
theorem inV_ints {a : Int} {l : List Rw} : inV (V.int a) (l.map fun r => V.int r.1) = l.any fun r => decide (r.1 = a) := by
  unfold inV
  rw [List.any_map]
  congr 1
section
variable {P : Program} {w : World} {K : PySem.W.Frag} {mg : Str → Option Value} {base : Heap} {C OB NO : Addr}
abbrev MCan (P : Program) (w : World) (K : PySem.W.Frag) (mg : Str → Option Value) (base : Heap) (C OB NO : Addr) := DefM P w K mg base OB "cancel" 5 ["self", "number"] (sdCancel C OB NO)
abbrev MCanA (P : Program) (w : World) (K : PySem.W.Frag) (mg : Str → Option Value) (base : Heap) (C OB : Addr) := DefM P w K mg base OB "cancel_all" 3 ["self", "member"] (sdCancelAll C OB)
def sdCancelled (C OB : Addr) : SpD := fun as Q _ => ∃ (ys : List D) (rs : List Rw) (n : Nat) (ms : List Str), as = [.own (.lst ys), .own (.ins OB (bkF C rs n)), .d (rowsN rs), .d (.lst (ms.map .str))] ∧ Bg ys ∧ BkOk rs n ∧ n ≤ 500 ∧ ms ≠ [] ∧ ms.length < 1000 ∧
  ∀ (c : Rw → Bool) (ys : List D), Bg ys → Q (.own (.lst ((rs.filter c).map rowN))) [.lst ys, .ins OB (bkF C (rs.filter c) n)]
abbrev s_law_cancelled : Stmt := top 39
theorem sc_law_cancelled : FnScope ["bag", "book", "rows", "members", "member", "gone", "one", "other"] ["bag", "book", "rows", "members"] (defScope s_law_cancelled) := ⟨rfl, rfl, rfl, by decide +kernel, rfl, by decide +kernel, by decide +kernel⟩
theorem ok_cancelled (D_law_take : DefD P w K mg base "_law_take" 1 ["bag", "many"] sdTake) (D_law_of : DefD P w K mg base "_law_of" 3 ["bag", "some"] sdOf) (D_law_plain : DefD P w K mg base "_law_plain" 1 ["pairs"] (sdPlain C)) (D_OrderBook_cancel : MCan P w K mg base C OB NO) (D_OrderBook_cancel_all : MCanA P w K mg base C OB)
    {f : Addr} {fd : FuncData} (G : Fun K "_law_cancelled" "_law_cancelled" s_law_cancelled f fd) (T : TxtBk K mg C OB) : FnOk P w K mg base (L2.CX P w) 7 f fd ["bag", "book", "rows", "members"] (spOf K (sdCancelled C OB)) := by
  refine okD G sc_law_cancelled [0, 1] (fun as Q E ⟨ys, rs, n, ms, e, _⟩ => by subst e; exact ⟨rfl, rfl⟩) ⟨_, fun cdv A outer s H E ad F0 H0 hr => (pds_cons (psd_if (PW.pt (pwd_or (ptd_cmp (op_eqD hr.units) op2_eqD.op (pd_var (pv 2)) (pd_lst (fun h => pe_lst h) pda_nil) (nomark _)) (pwd_or1 (ptd_cmp op_eq op2_eq.op (pd_call D_law_take.ok (hr.mono (by decide)) (by rfl) D_law_take.mg D_law_take.kp D_law_take.b (takes_of rfl rfl rfl rfl) (pda_own (i := 0) (pv 0) (pda_cons (pd_const pe_int (fun _ => .int _)) pda_nil))) (pd_const pe_int (fun _ => .int _)) (nomark _))))) (pds_cons (psd_set (i := 4) (pd_call D_law_of.ok (hr.mono (by decide)) (by rfl) D_law_of.mg D_law_of.kp D_law_of.b (takes_of rfl rfl rfl rfl) (pda_own (i := 0) (pv 0) (pda_cons (pd_var (pv 3)) pda_nil))) (by show ¬ (4 ∈ ([0, 1] : List Nat)); decide) sc_law_cancelled.nd rfl (.inr rfl))
      (pds_cons (psd_set (i := 5) (pd_lc (own := [("one", 6)]) (by rfl) sc_law_cancelled.nd (pid_list (pd_var (pv 2))) (blkOk_by (own := [("one", 6)]) (N := ["bag", "book", "rows", "members", "member", "gone", "one", "other"]) (sc := defScope s_law_cancelled) (by decide +kernel)) (fun _ _ _ _ _ => (pgd_name (i := 6) (vs := [6]) (pg_name (i := 6) sc_law_cancelled.nd rfl (.inl rfl)) (by show ¬ (6 ∈ ([0, 1] : List Nat)); decide) (by decide))) (fun _ _ _ _ _ => ptsd_one (ptd_cmp op_eq op2_eq.op (pd_ix ix_list op2_ixL (pd_ix ix_list op2_ixL (pd_var (pv 6)) (pd_const pe_int (fun _ => .int _)) (fun _ _ => rfl)) (pd_const pe_int (fun _ => .int _)) (fun _ _ => rfl)) (pd_var (pv 4)) (nomark _))) (fun _ _ _ _ _ => (pd_ix ix_list op2_ixL (pd_var (pv 6)) (pd_const pe_int (fun _ => .int _)) (fun _ _ => rfl))) (by show ∀ i ∈ ([6] : List Nat), ¬ (i ∈ ([0, 1] : List Nat)); decide)) (by show ¬ (5 ∈ ([0, 1] : List Nat)); decide) sc_law_cancelled.nd rfl (.inr rfl))
      (pds_cons (psd_if (ptd_cmp (op_neD hr.units) op2_neD.op (pd_methOS (j := 1) (pv 1) T.cl_OrderBook D_OrderBook_cancel_all.me D_OrderBook_cancel_all.ok (hr.mono (by decide)) D_OrderBook_cancel_all.b (takes_of rfl rfl rfl rfl) (pda_cons (pd_var (pv 4)) pda_nil)) (pd_builtB (fun h => pe_callTy call_tuple_of (by rfl) T.b_tuple (by decide +kernel) h) cn_tuple (pda_cons (pd_var (pv 5)) pda_nil)) (nomark _)) (pds_one (psd_ret (pd_const pe_non (fun _ => .non)))) pds_nil)
      (pds_one (psd_ret (pd_lc (own := [("one", 6)]) (by rfl) sc_law_cancelled.nd (pid_list (pd_var (pv 2))) (blkOk_by (own := [("one", 6)]) (N := ["bag", "book", "rows", "members", "member", "gone", "one", "other"]) (sc := defScope s_law_cancelled) (by decide +kernel)) (fun _ _ _ _ _ => (pgd_name (i := 6) (vs := [6]) (pg_name (i := 6) sc_law_cancelled.nd rfl (.inl rfl)) (by show ¬ (6 ∈ ([0, 1] : List Nat)); decide) (by decide))) (fun _ _ _ _ _ => ptsd_one (ptd_cmp op_notIn_seq (op2_in true).op (pd_ix ix_list op2_ixL (pd_var (pv 6)) (pd_const pe_int (fun _ => .int _)) (fun _ _ => rfl)) (pd_var (pv 5)) rfl)) (fun _ _ _ _ _ => (pd_var (pv 6))) (by show ∀ i ∈ ([6] : List Nat), ¬ (i ∈ ([0, 1] : List Nat)); decide))))))) pds_nil)
      (pds_cons (psd_set (i := 6) (pd_call D_law_of.ok (hr.mono (by decide)) (by rfl) D_law_of.mg D_law_of.kp D_law_of.b (takes_of rfl rfl rfl rfl) (pda_own (i := 0) (pv 0) (pda_cons (pd_var (pv 2)) pda_nil))) (by show ¬ (6 ∈ ([0, 1] : List Nat)); decide) sc_law_cancelled.nd rfl (.inr rfl))
      (pds_cons (psd_if (ptd_cmp (op_neD hr.units) op2_neD.op (pd_call D_law_plain.ok (hr.mono (by decide)) (by rfl) D_law_plain.mg D_law_plain.kp D_law_plain.b (takes_of rfl rfl rfl rfl) (pda_cons (pd_lst (fun h => pe_lst h) (pda_cons (pd_tup (fun h => pe_tup h) (pda_cons (pd_ix ix_list op2_ixL (pd_var (pv 6)) (pd_const pe_int (fun _ => .int _)) (fun _ _ => rfl)) (pda_cons (pd_methOS (j := 1) (pv 1) T.cl_OrderBook D_OrderBook_cancel.me D_OrderBook_cancel.ok (hr.mono (by decide)) D_OrderBook_cancel.b (takes_of rfl rfl rfl rfl) (pda_cons (pd_ix ix_list op2_ixL (pd_var (pv 6)) (pd_const pe_int (fun _ => .int _)) (fun _ _ => rfl)) pda_nil)) pda_nil))) pda_nil)) pda_nil)) (pd_lst (fun h => pe_lst h) (pda_cons (pd_var (pv 6)) pda_nil)) (nomark _)) (pds_one (psd_ret (pd_const pe_non (fun _ => .non)))) pds_nil)
      (pds_one (psd_ret (pd_lc (own := [("other", 7)]) (by rfl) sc_law_cancelled.nd (pid_list (pd_var (pv 2))) (blkOk_by (own := [("other", 7)]) (N := ["bag", "book", "rows", "members", "member", "gone", "one", "other"]) (sc := defScope s_law_cancelled) (by decide +kernel)) (fun _ _ _ _ _ => (pgd_name (i := 7) (vs := [7]) (pg_name (i := 7) sc_law_cancelled.nd rfl (.inl rfl)) (by show ¬ (7 ∈ ([0, 1] : List Nat)); decide) (by decide))) (fun _ _ _ _ _ => ptsd_one (ptd_cmp op_ne op2_ne.op (pd_ix ix_list op2_ixL (pd_var (pv 7)) (pd_const pe_int (fun _ => .int _)) (fun _ _ => rfl)) (pd_ix ix_list op2_ixL (pd_var (pv 6)) (pd_const pe_int (fun _ => .int _)) (fun _ _ => rfl)) (nomark _))) (fun _ _ _ _ _ => (pd_var (pv 7))) (by show ∀ i ∈ ([7] : List Nat), ¬ (i ∈ ([0, 1] : List Nat)); decide))))))), ?_⟩
  rintro as Qd Ed ⟨ys, rs, n, ms, rfl, hy, hb, hn, hm, hml, k⟩
  have hl : rs.length ≤ 500 := Nat.le_trans hb.ln hn
  refine DR.start (δ' := [some (.own (.lst ys)), some (.own (.ins OB (bkF C rs n))), some (.d (rowsN rs)), some (.d (.lst (ms.map .str))), none, none, none, none]) rfl ?_
  with_reducible refine DR.cut (fun δ => ∃ ys', Bg ys' ∧ rs ≠ [] ∧ δ = [some (.own (.lst ys')), some (.own (.ins OB (bkF C rs n))), some (.d (rowsN rs)), some (.d (.lst (ms.map .str))), none, none, none, none]) (fun N kN => ?_) ?_
  · refine DR.bcut (t := orD _ _) (fun b δ => ∃ ys', Bg ys' ∧ (b = false → rs ≠ []) ∧ δ = [some (.own (.lst ys')), some (.own (.ins OB (bkF C rs n))), some (.d (rowsN rs)), some (.d (.lst (ms.map .str))), none, none, none, none]) (fun N2 kN2 => ?_) ?_
    · walk_at "dd"
      refine ⟨cmp_rowsN, cmp_e.2, ?_⟩
      by_cases hr : rs = []
      · rw [show PyData.eqv (DV.d (rowsN rs)).toD.py (DV.own (OC.lst [])).toD.py = true from by rw [hr]; decide +kernel]
        walk_at "dd"
        exact kN2 _ _ ⟨ys, hy, (fun h => nomatch h), rfl⟩
      · rw [show PyData.eqv (DV.d (rowsN rs)).toD.py (DV.own (OC.lst [])).toD.py = false from eqv_rows0 hr]
        walk_at "dd"
        refine ⟨_, 3, rfl, hy, by decide, by decide, fun r ys2 h0 h1 hy2 => ?_⟩
        walk_at "dd"
        exact kN2 _ _ ⟨ys2, hy2, fun _ => hr, rfl⟩
    · rintro b δ ⟨ys', hy', hb', rfl⟩
      cases b with
      | false => exact kN _ ⟨ys', hy', hb' rfl, rfl⟩
      | true =>
        rw [if_pos rfl]
        walk_at "dd"
        refine ⟨_, _, _, rfl, rfl, hy', by rw [List.length_map]; exact List.length_pos_iff.mpr hm, by rw [List.length_map]; exact hml, fun g ys2 hg hy2 => ?_⟩
        obtain ⟨z, hz, rfl⟩ := List.mem_map.mp hg
        walk_at "dd"
        refine DR.lc_filterM (fun r => if decide (r.2.m = z) = true then some (.int r.1) else none) (fun r acc N2 hr hlt kN2 => ?_) ?_
        · walk_at "dd"
          iterate 2 (refine ⟨_, _, .inl rfl, (by with_unfolding_all rfl), ?_⟩; walk_at "dd")
          by_cases h : r.2.m = z
          · rw [decide_eq_true h, if_pos rfl] at kN2
            refine DR.split (fun _ => ?_) (fun c => absurd h c)
            walk_at "dd"
            refine ⟨_, _, .inl rfl, (by with_unfolding_all rfl), ?_⟩
            walk_at "dd"
            exact ⟨Nat.lt_of_lt_of_le hlt (Nat.le_trans hl (by decide)), kN2⟩
          · rw [decide_eq_false h, if_neg Bool.false_ne_true, Option.toList_none, List.append_nil] at kN2
            refine DR.split (fun c => absurd c h) (fun _ => ?_)
            walk_at "dd"
            exact kN2
        rw [filterMap_if (c := fun r : Rw => decide (r.2.m = z)) (g := fun r => D.int r.1)]
        walk_at "dd"
        refine ⟨rs, n, z, rfl, by omega, ?_⟩
        walk_at "dd"
        refine ⟨_, _, rfl, .inl rfl, ?_⟩
        walk_at "dd"
        have hc : Cmp (.tup ((rs.filter fun r => decide (r.2.m = z)).map fun r => .int r.1)) := (dp_tup (n := 1) (dp_map fun r _ => dp_int)).cmp
        refine ⟨hc, hc, ?_⟩
        rw [show PyData.eqv (DV.d (D.tup ((rs.filter fun r => decide (r.2.m = z)).map fun r => D.int r.1))).toD.py (DV.d (D.tup ((rs.filter fun r => decide (r.2.m = z)).map fun r => D.int r.1))).toD.py = true from eqv_self _ (noDict hc.1)]
        walk_at "dd"
        refine DR.lc_filterM (fun r => if (!decide (r.2.m = z)) = true then some (rowN r) else none) (fun r acc N2 hr hlt kN2 => ?_) ?_
        · walk_at "dd"
          refine ⟨_, _, .inl rfl, (by with_unfolding_all rfl), ?_⟩
          walk_at "dd"
          refine ⟨.int r.1, _, _, rfl, rfl, scL_ints, ?_⟩
          have hin : inV (V.int r.1) ((rs.filter fun r => decide (r.2.m = z)).map fun r => V.int r.1) = decide (r.2.m = z) := by
            rw [inV_ints, Bool.eq_iff_iff, List.any_eq_true, decide_eq_true_iff]
            refine ⟨fun ⟨q, hq, e⟩ => ?_, fun h => ⟨r, List.mem_filter.mpr ⟨hr, decide_eq_true h⟩, decide_eq_true rfl⟩⟩
            obtain ⟨hq1, hq2⟩ := List.mem_filter.mp hq
            rw [key_inj hb.nd hr hq1 (of_decide_eq_true e).symm]
            exact of_decide_eq_true hq2
          rw [if_pos rfl, hin]
          cases hm2 : decide (r.2.m = z) with
          | true =>
            rw [hm2] at kN2
            rw [show (!true) = false from rfl, if_neg Bool.false_ne_true, Option.toList_none, List.append_nil] at kN2
            walk_at "dd"
            exact kN2
          | false =>
            rw [hm2, show (!false) = true from rfl, if_pos rfl] at kN2
            walk_at "dd"
            exact ⟨Nat.lt_of_lt_of_le hlt (Nat.le_trans hl (by decide)), kN2⟩
        rw [filterMap_if (c := fun r : Rw => !decide (r.2.m = z)) (g := rowN)]
        walk_at "dd"
        exact k _ _ hy2
  · rintro δ ⟨ys', hy', hne, rfl⟩
    walk_at "dd"
    refine ⟨_, _, _, rfl, rfl, hy', by rw [List.length_map]; exact List.length_pos_iff.mpr hne, by rw [List.length_map]; omega, fun g ys2 hg hy2 => ?_⟩
    obtain ⟨r, hr, rfl⟩ := List.mem_map.mp hg
    obtain ⟨i, hi⟩ := List.mem_iff_getElem?.mp hr
    have hf := find_row hb.nd hi
    walk_at "dd"
    iterate 2 (refine ⟨_, _, .inl rfl, (by with_unfolding_all rfl), ?_⟩; walk_at "dd")
    refine ⟨rs, n, .int r.1, "int", rfl, .int _, by omega, fun r' h' => ?_, fun h' => by rw [hf] at h'; cases h'⟩
    rw [hf] at h'
    cases h'
    walk_at "dd"
    refine ⟨[r], .inl rfl, by show 1 ≤ 1000; decide, ?_⟩
    walk_at "dd"
    have hc : Cmp (rowsN [r]) := cmp_rowsN
    refine ⟨hc, hc, ?_⟩
    rw [show PyData.eqv (DV.own (OC.lst ([r].map rowN))).toD.py (DV.own (OC.lst [(DV.d (DV.d (rowN r)).toD).toD])).toD.py = true from eqv_self _ (noDict hc.1)]
    walk_at "dd"
    refine DR.lc_filterM (fun q => if (!decide (q.1 = r.1)) = true then some (rowN q) else none) (fun q acc N2 hq hlt kN2 => ?_) ?_
    · walk_at "dd"
      iterate 2 (refine ⟨_, _, .inl rfl, (by with_unfolding_all rfl), ?_⟩; walk_at "dd")
      cases hm2 : decide (q.1 = r.1) with
      | true =>
        rw [hm2, show (!true) = false from rfl, if_neg Bool.false_ne_true, Option.toList_none, List.append_nil] at kN2
        walk_at "dd"
        exact kN2
      | false =>
        rw [hm2, show (!false) = true from rfl, if_pos rfl] at kN2
        walk_at "dd"
        exact ⟨Nat.lt_of_lt_of_le hlt (Nat.le_trans hl (by decide)), kN2⟩
    rw [filterMap_if (c := fun q : Rw => !decide (q.1 = r.1)) (g := rowN)]
    walk_at "dd"
    exact k _ _ hy2
end
end KT

set_option Elab.async false
set_option linter.all false
set_option maxRecDepth 100000
set_option maxHeartbeats 0
set_option pp.deepTerms false
set_option pp.deepTerms.threshold 8


namespace KT
open PySem PySem.Spec PyProof.Rows L2 DL
/-! whether the book tells just these rows -/
section
variable {P : Program} {w : World} {K : PySem.W.Frag} {mg : Str → Option Value} {base : Heap} {C OB NO : Addr}
abbrev MOrd (P : Program) (w : World) (K : PySem.W.Frag) (mg : Str → Option Value) (base : Heap) (C OB NO : Addr) := DefM P w K mg base OB "order" 3 ["self", "number"] (sdOrder C OB NO)
abbrev MOpn (P : Program) (w : World) (K : PySem.W.Frag) (mg : Str → Option Value) (base : Heap) (C OB : Addr) := DefM P w K mg base OB "open_of" 1 ["self", "member"] (sdOpenOf C OB)
abbrev MBst (P : Program) (w : World) (K : PySem.W.Frag) (mg : Str → Option Value) (base : Heap) (C OB : Addr) := DefM P w K mg base OB "best" 9 ["self", "thing", "side"] (sdBest C OB)
abbrev MLev (P : Program) (w : World) (K : PySem.W.Frag) (mg : Str → Option Value) (base : Heap) (C OB : Addr) := DefM P w K mg base OB "levels" 9 ["self", "thing", "side"] (sdLevels C OB)
theorem cut_one {a : D} {l : List D} : DL.cutD (a :: l) none (some 1) = [a] := by
  unfold DL.cutD
  simp [HT.sIx]
def fstD (C : Addr) : List Rw → D
  | [] => .non
  | r :: _ => rwD C r
abbrev stR (C OB : Addr) (rs : List Rw) (n : Nat) (ms ts : List Str) (p4 p5 p6 p7 p8 p9 p10 p11 : Option DV) : DSt := [some (.own (.ins OB (bkF C rs n))), some (.d (rowsN rs)), some (.d (.lst (ms.map .str))), some (.d (.lst (ts.map .str))), p4, p5, p6, p7, p8, p9, p10, p11]
def sdRight (C OB : Addr) : SpD := fun as Q _ => ∃ (rs : List Rw) (n : Nat) (ms ts : List Str), as = [.own (.ins OB (bkF C rs n)), .d (rowsN rs), .d (.lst (ms.map .str)), .d (.lst (ts.map .str))] ∧ BkOk rs n ∧ n ≤ 500 ∧ Q (.d (.bl true)) [.ins OB (bkF C rs n)]
abbrev s_law_is_right : Stmt := top 38
theorem sc_law_is_right : FnScope ["book", "rows", "members", "things", "told", "one", "member", "thing", "side", "ranked", "first", "pair"] ["book", "rows", "members", "things"] (defScope s_law_is_right) := ⟨rfl, rfl, rfl, by decide +kernel, rfl, by decide +kernel, by decide +kernel⟩
theorem ok_right {PT : Addr} (D_law_plain : DefD P w K mg base "_law_plain" 1 ["pairs"] (sdPlain C)) (D_law_ranked : DefT P w K mg base "_law_ranked" 5 ["rows", "thing", "side"] PT lamQ sdRanked) (D_law_levels : DefD P w K mg base "_law_levels" 3 ["ranked"] sdLLevels)
    (D_OrderBook_order : MOrd P w K mg base C OB NO) (D_OrderBook_open_of : MOpn P w K mg base C OB) (D_OrderBook_best : MBst P w K mg base C OB) (D_OrderBook_levels : MLev P w K mg base C OB) (D_OrderBook___len : DefLen P w K mg base OB 1 ["self"] (sdLen C OB)) {fi : Addr} {fdi : FuncData} (I_OrderBook : IterOf K OB fi "OrderBook.__iter__" "_rows" s_OrderBook___iter fdi)
    {f : Addr} {fd : FuncData} (G : Fun K "_law_is_right" "_law_is_right" s_law_is_right f fd) (T : TxtBk K mg C OB) : FnOk P w K mg base (L2.CX P w) 11 f fd ["book", "rows", "members", "things"] (spG K PT lamQ (sdRight C OB)) := by
  refine okG G sc_law_is_right [0] (fun as Q E ⟨rs, n, ms, ts, e, _⟩ => by subst e; exact ⟨rfl, rfl⟩) ⟨_, fun cdv A outer s H E ad F0 H0 hcd hr => (pdsc_cons (psc_up (psd_set (i := 4) (pd_call D_law_plain.ok (hr.mono (by decide)) (by rfl) D_law_plain.mg D_law_plain.kp D_law_plain.b (takes_of rfl rfl rfl rfl) (pda_cons (pd_lc (own := [("pair", 11)]) (by rfl) sc_law_is_right.nd (pid_ownO (k := 1) (j := 0) I_OrderBook T.b_iter (hr.mono (by decide)) (pv 0)) (blkOk_by (own := [("pair", 11)]) (N := ["book", "rows", "members", "things", "told", "one", "member", "thing", "side", "ranked", "first", "pair"]) (sc := defScope s_law_is_right) (by decide +kernel)) (fun _ _ _ _ _ => (pgd_name (i := 11) (vs := [11]) (pg_name (i := 11) sc_law_is_right.nd rfl (.inl rfl)) (by show ¬ (11 ∈ ([0] : List Nat)); decide) (by decide))) (fun _ _ _ _ _ => ptsd_nil) (fun _ _ _ _ _ => (pd_var (pv 11))) (by show ∀ i ∈ ([11] : List Nat), ¬ (i ∈ ([0] : List Nat)); decide)) pda_nil)) (by show ¬ (4 ∈ ([0] : List Nat)); decide) sc_law_is_right.nd rfl (.inl rfl)))
      (pdsc_cons (psc_up (psd_if (PW.pt (pwd_or (ptd_cmp (op_neD hr.units) op2_neD.op (pd_var (pv 4)) (pd_var (pv 1)) (nomark _)) (pwd_or1 (ptd_cmp op_ne op2_ne.op (pd_lenO (j := 0) D_OrderBook___len.le D_OrderBook___len.ok (hr.mono (by decide)) D_OrderBook___len.b (by rfl) T.b_len (pv 0)) (pd_builtB (fun h => pe_callB call_len_seq (by rfl) T.b_len (by decide +kernel) h) cn_len.op (pda_cons (pd_var (pv 1)) pda_nil)) (nomark _))))) (pds_one (psd_ret (pd_const pe_bl (fun _ => .bl _)))) pds_nil))
      (pdsc_cons (psc_up (psd_for (passes_of rfl) rfl (pid_list (pd_var (pv 1))) (pgd_name (i := 5) (vs := [5]) (pg_name (i := 5) sc_law_is_right.nd rfl (.inl rfl)) (by show ¬ (5 ∈ ([0] : List Nat)); decide) (by decide))
      (pds_one (psd_if (ptd_cmp (op_neD hr.units) op2_neD.op (pd_call D_law_plain.ok (hr.mono (by decide)) (by rfl) D_law_plain.mg D_law_plain.kp D_law_plain.b (takes_of rfl rfl rfl rfl) (pda_cons (pd_lst (fun h => pe_lst h) (pda_cons (pd_tup (fun h => pe_tup h) (pda_cons (pd_ix ix_list op2_ixL (pd_var (pv 5)) (pd_const pe_int (fun _ => .int _)) (fun _ _ => rfl)) (pda_cons (pd_methOS (j := 0) (pv 0) T.cl_OrderBook D_OrderBook_order.me D_OrderBook_order.ok (hr.mono (by decide)) D_OrderBook_order.b (takes_of rfl rfl rfl rfl) (pda_cons (pd_ix ix_list op2_ixL (pd_var (pv 5)) (pd_const pe_int (fun _ => .int _)) (fun _ _ => rfl)) pda_nil)) pda_nil))) pda_nil)) pda_nil)) (pd_lst (fun h => pe_lst h) (pda_cons (pd_var (pv 5)) pda_nil)) (nomark _)) (pds_one (psd_ret (pd_const pe_bl (fun _ => .bl _)))) pds_nil))))
      (pdsc_cons (psc_up (psd_for (passes_of rfl) rfl (pid_list (pd_var (pv 2))) (pgd_name (i := 6) (vs := [6]) (pg_name (i := 6) sc_law_is_right.nd rfl (.inr rfl)) (by show ¬ (6 ∈ ([0] : List Nat)); decide) (by decide))
      (pds_cons (psd_set (i := 4) (pd_methOS (j := 0) (pv 0) T.cl_OrderBook D_OrderBook_open_of.me D_OrderBook_open_of.ok (hr.mono (by decide)) D_OrderBook_open_of.b (takes_of rfl rfl rfl rfl) (pda_cons (pd_var (pv 6)) pda_nil)) (by show ¬ (4 ∈ ([0] : List Nat)); decide) sc_law_is_right.nd rfl (.inl rfl))
      (pds_one (psd_if (PW.pt (pwd_or (ptd_not (ptd_val (pd_builtB (fun h => pe_callB call_isi (by rfl) T.b_isinstance (by decide +kernel) h) (cn_isi (K := K)).op (pda_cons (pd_var (pv 4)) (pda_cons (pd_const (pe_bltn (v := .ty "tuple") (by rfl) T.b_tuple (by decide +kernel) rfl) (fun _ => .ty _)) pda_nil))) (fun h => pt_val h))) (pwd_or1 (ptd_cmp (op_neD hr.units) op2_neD.op (pd_call D_law_plain.ok (hr.mono (by decide)) (by rfl) D_law_plain.mg D_law_plain.kp D_law_plain.b (takes_of rfl rfl rfl rfl) (pda_cons (pd_var (pv 4)) pda_nil)) (pd_lc (own := [("one", 5)]) (by rfl) sc_law_is_right.nd (pid_list (pd_var (pv 1))) (blkOk_by (own := [("one", 5)]) (N := ["book", "rows", "members", "things", "told", "one", "member", "thing", "side", "ranked", "first", "pair"]) (sc := defScope s_law_is_right) (by decide +kernel)) (fun _ _ _ _ _ => (pgd_name (i := 5) (vs := [5]) (pg_name (i := 5) sc_law_is_right.nd rfl (.inl rfl)) (by show ¬ (5 ∈ ([0] : List Nat)); decide) (by decide))) (fun _ _ _ _ _ => ptsd_one (ptd_cmp op_eq op2_eq.op (pd_ix ix_list op2_ixL (pd_ix ix_list op2_ixL (pd_var (pv 5)) (pd_const pe_int (fun _ => .int _)) (fun _ _ => rfl)) (pd_const pe_int (fun _ => .int _)) (fun _ _ => rfl)) (pd_var (pv 6)) (nomark _))) (fun _ _ _ _ _ => (pd_var (pv 5))) (by show ∀ i ∈ ([5] : List Nat), ¬ (i ∈ ([0] : List Nat)); decide)) (nomark _))))) (pds_one (psd_ret (pd_const pe_bl (fun _ => .bl _)))) pds_nil)))))
      (pdsc_cons (psc_forR (passes_of rfl) rfl (pid_list (pd_var (pv 3))) (pgd_name (i := 7) (vs := [7]) (pg_name (i := 7) sc_law_is_right.nd rfl (.inl rfl)) (by show ¬ (7 ∈ ([0] : List Nat)); decide) (by decide))
      (pdsc_one (psc_forR (passes_of rfl) rfl (pid_list (pd_lst (fun h => pe_lst h) (pda_cons (pd_const pe_str (fun _ => .str (by decide +kernel))) (pda_cons (pd_const pe_str (fun _ => .str (by decide +kernel))) pda_nil)))) (pgd_name (i := 8) (vs := [8]) (pg_name (i := 8) sc_law_is_right.nd rfl (.inl rfl)) (by show ¬ (8 ∈ ([0] : List Nat)); decide) (by decide))
      (pdsc_cons (psc_set (i := 9) (o := false) (pec_callG D_law_ranked.ok (hr.mono (by decide)) (by rfl) D_law_ranked.mg D_law_ranked.kp D_law_ranked.b (takes_of rfl rfl rfl rfl) (pda_cons (pd_var (pv 1)) (pda_cons (pd_var (pv 7)) (pda_cons (pd_var (pv 8)) pda_nil)))) (by show ¬ (9 ∈ ([0] : List Nat)); decide) sc_law_is_right.nd rfl (.inl rfl))
      (pdsc_cons (psc_up (psd_set (i := 10) (pd_methOS (j := 0) (pv 0) T.cl_OrderBook D_OrderBook_best.me D_OrderBook_best.ok (hr.mono (by decide)) D_OrderBook_best.b (takes_of rfl rfl rfl rfl) (pda_cons (pd_var (pv 7)) (pda_cons (pd_var (pv 8)) pda_nil))) (by show ¬ (10 ∈ ([0] : List Nat)); decide) sc_law_is_right.nd rfl (.inl rfl)))
      (pdsc_cons (psc_up (psd_if (PW.pt (pwd_or (ptd_cmp op_ne op2_ne.op (pd_cmp op_isN op2_isN.op (pd_var (pv 10)) (pd_const pe_non (fun _ => .non)) (nomark _)) (pd_cmp (op_eqD hr.units) op2_eqD.op (pd_var (pv 9)) (pd_lst (fun h => pe_lst h) pda_nil) (nomark _)) (nomark _)) (pwd_or1 (PW.pt (pwd_and (ptd_cmp (op_neX hr.units) op2_neX.op (pd_var (pv 9)) (pd_lst (fun h => pe_lst h) pda_nil) (nomark _)) (pwd_and1 (ptd_cmp (op_neD hr.units) op2_neD.op (pd_call D_law_plain.ok (hr.mono (by decide)) (by rfl) D_law_plain.mg D_law_plain.kp D_law_plain.b (takes_of rfl rfl rfl rfl) (pda_cons (pd_lst (fun h => pe_lst h) (pda_cons (pd_var (pv 10)) pda_nil)) pda_nil)) (pd_slice (pd_var (pv 9)) pod_none (pod_some (pd_const pe_int (fun _ => .int _)))) (nomark _)))))))) (pds_one (psd_ret (pd_const pe_bl (fun _ => .bl _)))) pds_nil))
      (pdsc_one (psc_up (psd_if (ptd_cmp (op_neD hr.units) op2_neD.op (pd_methOS (j := 0) (pv 0) T.cl_OrderBook D_OrderBook_levels.me D_OrderBook_levels.ok (hr.mono (by decide)) D_OrderBook_levels.b (takes_of rfl rfl rfl rfl) (pda_cons (pd_var (pv 7)) (pda_cons (pd_var (pv 8)) pda_nil))) (pd_call D_law_levels.ok (hr.mono (by decide)) (by rfl) D_law_levels.mg D_law_levels.kp D_law_levels.b (takes_of rfl rfl rfl rfl) (pda_cons (pd_var (pv 9)) pda_nil)) (nomark _)) (pds_one (psd_ret (pd_const pe_bl (fun _ => .bl _)))) pds_nil)))))))))
      (pdsc_one (psc_up (psd_ret (pd_const pe_bl (fun _ => .bl _)))))))))), ?_⟩
  rintro as Qd Ed ⟨rs, n, ms, ts, rfl, hb, hn, k⟩
  have hl : rs.length ≤ 500 := Nat.le_trans hb.ln hn
  show seqC _ _ _ (stR C OB rs n ms ts none none none none none none none none) _
  with_reducible refine DR.cutC (fun δ cs => cs = [(PT, .tab PT lamQ)] ∧ δ = stR C OB rs n ms ts (some (.d (rowsN rs))) none none none none none none none) (fun N kN => ?_) ?_
  · refine DR.upC ?_
    walk_at "dd"
    refine DR.lc_mapM (rwD C) (fun r acc N2 hr hlt kN2 => ?_) ?_
    · walk_at "dd"
      exact ⟨Nat.lt_of_lt_of_le hlt (Nat.le_trans hl (by decide)), kN2⟩
    walk_at "dd"
    refine ⟨rs, .inl rfl, by omega, ?_⟩
    walk_at "dd"
    exact kN _ _ ⟨rfl, rfl⟩
  rintro δ cs ⟨rfl, rfl⟩
  with_reducible refine DR.cutC (fun δ cs => cs = [(PT, .tab PT lamQ)] ∧ δ = stR C OB rs n ms ts (some (.d (rowsN rs))) none none none none none none none) (fun N kN => ?_) ?_
  · refine DR.upC ?_
    walk_at "dd"
    refine ne_self cmp_rowsN ?_
    walk_at "dd"
    refine DR.lenO (by with_unfolding_all rfl) ⟨rs, n, rfl, rs.length, rfl, Nat.le_trans hl (by decide), ?_⟩
    walk_at "dd"
    rw [List.length_map]
    refine DR.splitN (fun _ => ?_) (fun c => absurd rfl c)
    walk_at "dd"
    exact kN _ _ ⟨rfl, rfl⟩
  rintro δ cs ⟨rfl, rfl⟩
  with_reducible refine DR.cutC (fun δ cs => cs = [(PT, .tab PT lamQ)] ∧ ∃ p5, δ = stR C OB rs n ms ts (some (.d (rowsN rs))) p5 none none none none none none) (fun N kN => ?_) ?_
  · refine DR.upC ?_
    walk_at "dd"
    refine DR.for_inv (fun i δ => ∃ p5, δ = stR C OB rs n ms ts (some (.d (rowsN rs))) p5 none none none none none none) ⟨none, rfl⟩ ?_ ?_
    · rintro i x δ N2 hx ⟨p5, rfl⟩ kN2
      obtain ⟨r, hri, rfl⟩ := DR.map_at hx
      have hf := find_row hb.nd hri
      walk_at "dd"
      iterate 2 (refine ⟨_, _, .inl rfl, (by with_unfolding_all rfl), ?_⟩; walk_at "dd")
      refine ⟨rs, n, .int r.1, "int", rfl, .int _, fun r' h' => ?_, fun h' => by rw [hf] at h'; cases h'⟩
      rw [hf] at h'
      cases h'
      walk_at "dd"
      refine ⟨[r], .inl rfl, by show 1 ≤ 1000; decide, ?_⟩
      walk_at "dd"
      refine ne_self (d := rowsN [r]) cmp_rowsN ?_
      walk_at "dd"
      exact kN2 _ ⟨_, rfl⟩
    · rintro δ ⟨p5, rfl⟩
      exact kN _ _ ⟨rfl, p5, rfl⟩
  rintro δ cs ⟨rfl, p5, rfl⟩
  with_reducible refine DR.cutC (fun δ cs => cs = [(PT, .tab PT lamQ)] ∧ ∃ p4 p5 p6, δ = stR C OB rs n ms ts p4 p5 p6 none none none none none) (fun N kN => ?_) ?_
  · refine DR.upC ?_
    walk_at "dd"
    refine DR.for_inv (fun i δ => ∃ p4 p5 p6, δ = stR C OB rs n ms ts p4 p5 p6 none none none none none) ⟨_, _, _, rfl⟩ ?_ ?_
    · rintro i x δ N2 hx ⟨p4, p5, p6, rfl⟩ kN2
      obtain ⟨z, hzi, rfl⟩ := DR.map_at hx
      walk_at "dd"
      refine ⟨rs, n, z, rfl, by omega, ?_⟩
      walk_at "dd"
      refine ⟨_, _, _, _, true, rfl, .ty _, .tup _, kit_self, ?_⟩
      walk_at "dd"
      refine ⟨rs.filter fun r => decide (r.2.m = z), .inr rfl, Nat.le_trans (List.length_filter_le ..) (by omega), ?_⟩
      walk_at "dd"
      refine DR.lc_filterM (fun r => if decide (r.2.m = z) = true then some (rowN r) else none) (fun r acc N3 hr hlt kN3 => ?_) ?_
      · walk_at "dd"
        iterate 2 (refine ⟨_, _, .inl rfl, (by with_unfolding_all rfl), ?_⟩; walk_at "dd")
        by_cases h : r.2.m = z
        · rw [decide_eq_true h, if_pos rfl] at kN3
          refine DR.split (fun _ => ?_) (fun c => absurd h c)
          walk_at "dd"
          exact ⟨Nat.lt_of_lt_of_le hlt (Nat.le_trans hl (by decide)), kN3⟩
        · rw [decide_eq_false h, if_neg Bool.false_ne_true, Option.toList_none, List.append_nil] at kN3
          refine DR.split (fun c => absurd c h) (fun _ => ?_)
          walk_at "dd"
          exact kN3
      rw [filterMap_if (c := fun r : Rw => decide (r.2.m = z)) (g := rowN)]
      walk_at "dd"
      refine ne_self (d := rowsN (rs.filter fun r => decide (r.2.m = z))) cmp_rowsN ?_
      walk_at "dd"
      exact kN2 _ ⟨_, _, _, rfl⟩
    · rintro δ ⟨p4, p5, p6, rfl⟩
      exact kN _ _ ⟨rfl, p4, p5, p6, rfl⟩
  rintro δ cs ⟨rfl, p4, p5, p6, rfl⟩
  with_reducible refine DR.cutC (fun δ cs => cs = [(PT, .tab PT lamQ)] ∧ ∃ p4 p5 p6 p7 p8 p9 p10, δ = stR C OB rs n ms ts p4 p5 p6 p7 p8 p9 p10 none) (fun N kN => ?_) ?_
  · refine DR.forCR ?_
    walk_at "dd"
    refine DR.forR_inv (fun i δ cs => cs = [(PT, .tab PT lamQ)] ∧ ∃ p4 p5 p6 p7 p8 p9 p10, δ = stR C OB rs n ms ts p4 p5 p6 p7 p8 p9 p10 none) ⟨rfl, _, _, _, _, _, _, _, rfl⟩ ?_ ?_
    · rintro i x δ cs N2 hx ⟨rfl, p4, p5, p6, p7, p8, p9, p10, rfl⟩ kN2
      obtain ⟨t, hti, rfl⟩ := DR.map_at hx
      walk_at "dd"
      refine DR.forCR ?_
      walk_at "dd"
      refine DR.forR_inv (fun i δ cs => cs = [(PT, .tab PT lamQ)] ∧ ∃ p4 p5 p6 p8 p9 p10, δ = stR C OB rs n ms ts p4 p5 p6 (some (.d (.str t))) p8 p9 p10 none) ⟨rfl, _, _, _, _, _, _, rfl⟩ ?_ ?_
      · rintro j y δ cs N3 hy ⟨rfl, p4, p5, p6, p8, p9, p10, rfl⟩ kN3
        obtain ⟨b, rfl⟩ : ∃ b, y = .str (side b) := by
          match j, hy with
          | 0, hy => exact ⟨true, by cases hy; rfl⟩
          | 1, hy => exact ⟨false, by cases hy; rfl⟩
        walk_at "dd"
        with_reducible refine DR.seqC ?_
        refine DR.setC (DR.callG (List.mem_singleton.mpr rfl) ?_)
        walk_at "dd"
        refine ⟨rs, t, b, rfl, by omega, ?_⟩
        have hsl : (sideR rs t b).length ≤ 500 := by
          unfold sideR
          rw [List.length_mergeSort]
          exact Nat.le_trans (List.length_filter_le ..) hl
        with_reducible refine DR.cutC (fun δ cs => cs = [(PT, .tab PT lamQ)] ∧ δ = stR C OB rs n ms ts p4 p5 p6 (some (.d (.str t))) (some (.d (.str (side b)))) (some (.d (rowsN (sideR rs t b)))) (some (.d (fstD C (sideR rs t b)))) none) (fun N4 kN4 => ?_) ?_
        · refine DR.upC ?_
          walk_at "dd"
          refine ⟨rs, n, t, b, rfl, by omega, ?_⟩
          walk_at "dd"
          exact kN4 _ _ ⟨rfl, rfl⟩
        rintro δ cs ⟨rfl, rfl⟩
        with_reducible refine DR.cutC (fun δ cs => cs = [(PT, .tab PT lamQ)] ∧ ∃ p10, δ = stR C OB rs n ms ts p4 p5 p6 (some (.d (.str t))) (some (.d (.str (side b)))) (some (.d (rowsN (sideR rs t b)))) p10 none) (fun N4 kN4 => ?_) ?_
        · refine DR.upC ?_
          cases hs : sideR rs t b with
          | nil =>
            rw [hs] at kN4
            rw [show fstD C [] = .non from rfl]
            walk_at "dd"
            refine ⟨true, rfl, ⟨fun _ => rfl, fun _ => rfl⟩, ?_⟩
            walk_at "dd"
            refine eq_self (d := rowsN []) cmp_rowsN ?_
            walk_at "dd"
            refine ⟨rfl, ?_⟩
            walk_at "dd"
            rw [if_neg (by decide)]
            walk_at "dd"
            refine .inl (ne_self (d := rowsN []) cmp_rowsN ?_)
            walk_at "dd"
            exact kN4 _ _ ⟨rfl, _, rfl⟩
          | cons r l =>
            rw [hs] at kN4
            rw [show fstD C (r :: l) = rwD C r from rfl]
            walk_at "dd"
            refine ⟨false, rfl, ⟨(fun h => nomatch h), (fun h => nomatch h)⟩, ?_⟩
            walk_at "dd"
            refine eqd_t (b := false) cmp_rowsN cmp_e.2 (eqv_rows0 (rs := r :: l) fun z => nomatch z) ?_
            walk_at "dd"
            refine ⟨rfl, ?_⟩
            walk_at "dd"
            rw [if_neg (by decide)]
            walk_at "dd"
            refine .inr ⟨_, _, .inl rfl, .inl rfl, (fun z => nomatch z), ?_⟩
            walk_at "dd"
            refine ⟨[r], .inl rfl, by show 1 ≤ 1000; decide, ?_⟩
            walk_at "dd"
            rw [show DL.cutD ((r :: l).map rowN) none (some 1) = [rowN r] from cut_one]
            refine ne_self (d := rowsN [r]) cmp_rowsN ?_
            walk_at "dd"
            exact kN4 _ _ ⟨rfl, _, rfl⟩
        rintro δ cs ⟨rfl, p10, rfl⟩
        refine DR.upC ?_
        walk_at "dd"
        refine ⟨rs, n, t, b, rfl, by omega, ?_⟩
        walk_at "dd"
        refine ⟨sideR rs t b, rfl, by omega, ?_⟩
        have hlv : Cmp (.tup ((lvF (sideR rs t b)).map prI)) := (dp_tup (n := 2) (dp_map fun p _ => dp_tup (n := 1) (ds := [.int p.1, .int p.2]) fun d hd => by
          simp only [List.mem_cons, List.not_mem_nil, or_false] at hd
          rcases hd with rfl | rfl <;> exact dp_int)).cmp
        refine ne_self (d := .tup ((lvF (sideR rs t b)).map prI)) hlv ?_
        walk_at "dd"
        exact kN3 _ _ ⟨rfl, _, _, _, _, _, _, rfl⟩
      · rintro δ cs ⟨rfl, p4, p5, p6, p8, p9, p10, rfl⟩
        exact kN2 _ _ ⟨rfl, p4, p5, p6, _, p8, p9, p10, rfl⟩
    · rintro δ cs ⟨rfl, p4, p5, p6, p7, p8, p9, p10, rfl⟩
      exact kN _ _ ⟨rfl, p4, p5, p6, p7, p8, p9, p10, rfl⟩
  rintro δ cs ⟨rfl, p4, p5, p6, p7, p8, p9, p10, rfl⟩
  refine DR.upC ?_
  walk_at "dd"
  exact ⟨rfl, _, ⟨_, _, rfl, rfl, rfl⟩, k⟩
end
end KT

set_option Elab.async false
set_option linter.all false
set_option maxRecDepth 100000
set_option maxHeartbeats 0
set_option pp.deepTerms false
set_option pp.deepTerms.threshold 8


namespace KT
open PySem PySem.Spec PyProof.Rows L2 DL
abbrev strL (xs : List Str) : Option DV := some (.d (.lst (xs.map .str)))
abbrev intL (xs : List Int) : Option DV := some (.d (.lst (xs.map .int)))
abbrev bkV (C OB : Addr) (rs : List Rw) (n : Nat) : Option DV := some (.own (.ins OB (bkF C rs n)))
abbrev stL (zs : List Int) (i : Nat) (ys : List D) (ms ts : List Str) (ls : List Int) (r : List (Option DV)) : DSt := [some (.d (.ro (zs.map .int))), some (.d (.int (i : Int))), some (.own (.lst ys)), strL ms, strL ts, intL ls] ++ r
theorem nml {gs : List Str} (h : Goods gs) : NmL gs := ⟨fun e => by have := h.2.1; rw [e] at this; exact absurd this (by decide), by have := h.2.2.1; omega, h.2.2.2⟩
theorem bk0 : BkOk [] 0 := ⟨(fun _ h => nomatch h), (fun _ h => nomatch h), .nil, Nat.le_refl _⟩
theorem atM {α β : Type} {f : α → β} {l : List α} (h : l ≠ []) : ∃ a ∈ l, atI (l.map f) (-1) = some (f a) := by
  have hl := List.length_pos_iff.mpr h
  refine ⟨l[l.length - 1], List.getElem_mem _, ?_⟩
  unfold atI
  have e : ixN (l.map f).length (-1) = some (l.length - 1) := by
    unfold ixN
    rw [List.length_map]
    simp
    omega
  rw [e]
  show (l.map f)[l.length - 1]? = _
  rw [List.getElem?_map, List.getElem?_eq_getElem (by omega)]
  rfl
theorem asc_place {rs : List Rw} {n : Nat} {o : Od} (h : BkOk rs n) (ha : Asc rs) : Asc (placeR rs n o) := by
  have h1 : Asc (lessF rs (mat rs o).tk) := List.Pairwise.sublist less_keys ha
  unfold placeR
  split
  · unfold Asc
    rw [List.map_append]
    refine List.pairwise_append.mpr ⟨h1, List.pairwise_singleton .., fun a ha b hb => ?_⟩
    obtain ⟨r, hr, rfl⟩ := List.mem_map.mp (less_keys.subset ha)
    rw [List.mem_singleton.mp hb]
    exact (h.lo r hr).2
  · exact h1
theorem asc_filter {rs : List Rw} {c : Rw → Bool} (ha : Asc rs) : Asc (rs.filter c) := List.Pairwise.sublist (List.filter_sublist.map _) ha
theorem cmp_fs {fs : List Fl} : Cmp (fsD fs) := (dp_tup (n := 2) (dp_map fun f _ => dp_tup (n := 1) (ds := [.str f.b, .str f.s, .str f.t, .int f.c, .int f.l]) fun d hd => by
  simp only [List.mem_cons, List.not_mem_nil, or_false] at hd
  rcases hd with rfl | rfl | rfl | rfl | rfl
  · exact dp_str
  · exact dp_str
  · exact dp_str
  · exact dp_int
  · exact dp_int)).cmp
theorem cmp_place {n : Int} {fs : List Fl} : Cmp (.tup [.int n, fsD fs]) := (dp_tup (n := 3) fun d hd => by
  simp only [List.mem_cons, List.not_mem_nil, or_false] at hd
  rcases hd with rfl | rfl
  · exact dp_int.le (by decide)
  · exact dp_tup (n := 2) (dp_map fun f _ => dp_tup (n := 1) (ds := [.str f.b, .str f.s, .str f.t, .int f.c, .int f.l]) fun d hd => by
      simp only [List.mem_cons, List.not_mem_nil, or_false] at hd
      rcases hd with rfl | rfl | rfl | rfl | rfl
      · exact dp_str
      · exact dp_str
      · exact dp_str
      · exact dp_int
      · exact dp_int)).cmp
section
variable {P : Program} {w : World} {K : PySem.W.Frag} {mg : Str → Option Value} {base : Heap} {C OB NO : Addr}
def sdLaw : SpD := fun as Q _ => ∃ zs : List Int, as = [.d (.ro (zs.map .int))] ∧ Q (.d (.bl true)) []
abbrev MPla (P : Program) (w : World) (K : PySem.W.Frag) (mg : Str → Option Value) (base : Heap) (C OB : Addr) := DefM P w K mg base OB "place" 11 ["self", "order"] (sdPlace C OB)
abbrev MWou (P : Program) (w : World) (K : PySem.W.Frag) (mg : Str → Option Value) (base : Heap) (C OB : Addr) := DefM P w K mg base OB "would_fill" 9 ["self", "order"] (sdWould C OB)
abbrev s_law : Stmt := top 40
theorem sc_law : FnScope ["script", "at", "bag", "members", "things", "limits", "book", "rows", "number", "turn", "row", "later", "fills", "pair"] ["script"] (defScope s_law) := ⟨rfl, rfl, rfl, by decide +kernel, rfl, by decide +kernel, by decide +kernel⟩
theorem ok_law {PT : Addr} (D_law_bag : DefD P w K mg base "_law_bag" 1 ["script", "at"] sdBag) (D_law_take : DefD P w K mg base "_law_take" 1 ["bag", "many"] sdTake) (D_law_names : DefD P w K mg base "_law_names" 5 ["bag", "many"] sdNames) (D_law_limits : DefD P w K mg base "_law_limits" 5 ["bag"] sdLims)
    (D_law_row : DefD P w K mg base "_law_row" 5 ["bag", "members", "things", "limits"] sdLRow) (D_law_order : DefD P w K mg base "_law_order" 7 ["row"] (sdLOrder C)) (D_law_placed : DefD P w K mg base "_law_placed" 3 ["rows", "number", "row"] sdPlacedL) (D_law_plain : DefD P w K mg base "_law_plain" 1 ["pairs"] (sdPlain C))
    (D_law_cancelled : DefD P w K mg base "_law_cancelled" 7 ["bag", "book", "rows", "members"] (sdCancelled C OB)) (D_law_is_right : DefT P w K mg base "_law_is_right" 11 ["book", "rows", "members", "things"] PT lamQ (sdRight C OB))
    (D_OrderBook___init : DefN P w K mg base OB 1 ["self"] (sdBInit C OB)) (D_OrderBook_place : MPla P w K mg base C OB) (D_OrderBook_would_fill : MWou P w K mg base C OB) {fi : Addr} {fdi : FuncData} (I_OrderBook : IterOf K OB fi "OrderBook.__iter__" "_rows" s_OrderBook___iter fdi)
    {f : Addr} {fd : FuncData} (G : Fun K "law" "law" s_law f fd) (T : TxtBk K mg C OB) : FnOk P w K mg base (L2.CX P w) 13 f fd ["script"] (spG K PT lamQ sdLaw) := by
  refine okG G sc_law [] (fun as Q E ⟨zs, e, _⟩ => by subst e; exact ⟨rfl, rfl⟩) ⟨_, fun cdv A outer s H E ad F0 H0 hcd hr => (pdsc_cons (psc_forR (passes_of rfl) rfl (pid_range1 (by rfl) T.b_range (pda_cons (pd_builtB (fun h => pe_callB (call_max2 rfl) (by rfl) T.b_max (by decide +kernel) h) cn_two.op (pda_cons (pd_const pe_int (fun _ => .int _)) (pda_cons (pd_builtB (fun h => pe_callB (call_min2 rfl) (by rfl) T.b_min (by decide +kernel) h) cn_two.op (pda_cons (pd_const pe_int (fun _ => .int _)) (pda_cons (pd_builtB (fun h => pe_callB call_len_seq (by rfl) T.b_len (by decide +kernel) h) cn_len.op (pda_cons (pd_var (pv 0)) pda_nil)) pda_nil))) pda_nil))) pda_nil)) (pgd_name (i := 1) (vs := [1]) (pg_name (i := 1) sc_law.nd rfl (.inl rfl)) (by show ¬ (1 ∈ ([] : List Nat)); decide) (by decide))
      (pdsc_cons (psc_up (psd_setO (i := 2) (pd_call D_law_bag.ok (hr.mono (by decide)) (by rfl) D_law_bag.mg D_law_bag.kp D_law_bag.b (takes_of rfl rfl rfl rfl) (pda_cons (pd_var (pv 0)) (pda_cons (pd_var (pv 1)) pda_nil))) (by show ¬ (2 ∈ ([] : List Nat)); decide) sc_law.nd rfl (.inl rfl)))
      (pdsc_cons (psc_up (psd_par3 (i := 3) (j := 4) (l := 5) (oi := false) (oj := false) (ol := false) (pka_cons (pd_call D_law_names.ok (hr.mono (by decide)) (by rfl) D_law_names.mg D_law_names.kp D_law_names.b (takes_of rfl rfl rfl rfl) (pda_own (i := 2) (pv 2) (pda_cons (pd_const pe_int (fun _ => .int _)) pda_nil))) (pka_cons (pd_call D_law_names.ok (hr.mono (by decide)) (by rfl) D_law_names.mg D_law_names.kp D_law_names.b (takes_of rfl rfl rfl rfl) (pda_own (i := 2) (pv 2) (pda_cons (pd_const pe_int (fun _ => .int _)) pda_nil))) (pka_cons (pd_call D_law_limits.ok (hr.mono (by decide)) (by rfl) D_law_limits.mg D_law_limits.kp D_law_limits.b (takes_of rfl rfl rfl rfl) (pda_own (i := 2) (pv 2) pda_nil)) pka_nil))) (by show ¬ (3 ∈ ([] : List Nat)); decide) (by show ¬ (4 ∈ ([] : List Nat)); decide) (by show ¬ (5 ∈ ([] : List Nat)); decide) (fun h => ps_par3 (i := 3) (j := 4) (l := 5) (by rfl) sc_law.nd rfl rfl rfl (by decide) (by decide) (by decide) rfl rfl rfl h (by rfl)) (by decide) (by decide) (by decide)))
      (pdsc_cons (psc_up (psd_par3 (i := 6) (j := 7) (l := 8) (oi := true) (oj := false) (ol := false) (pka_cons (pd_makeO0 D_OrderBook___init.made D_OrderBook___init.ok (hr.mono (by decide)) (by rfl) T.c_OrderBook D_OrderBook___init.b (takes_of rfl rfl rfl rfl)) (pka_cons (pd_lst (fun h => pe_lst h) pda_nil) (pka_cons (pd_const pe_int (fun _ => .int _)) pka_nil))) (by show ¬ (6 ∈ ([] : List Nat)); decide) (by show ¬ (7 ∈ ([] : List Nat)); decide) (by show ¬ (8 ∈ ([] : List Nat)); decide) (fun h => ps_par3 (i := 6) (j := 7) (l := 8) (by rfl) sc_law.nd rfl rfl rfl (by decide) (by decide) (by decide) rfl rfl rfl h (by rfl)) (by decide) (by decide) (by decide)))
      (pdsc_one (psc_forR (passes_of rfl) rfl (pid_range1 (by rfl) T.b_range (pda_cons (pd_ifExp (ptd_cmp (op_neX hr.units) op2_neX.op (pd_var (pv 0)) (pd_lst (fun h => pe_lst h) pda_nil) (nomark _)) (pd_op op_add (op2_I0 fun _ _ _ => .int _) (pd_const pe_int (fun _ => .int _)) (pd_call D_law_take.ok (hr.mono (by decide)) (by rfl) D_law_take.mg D_law_take.kp D_law_take.b (takes_of rfl rfl rfl rfl) (pda_own (i := 2) (pv 2) (pda_cons (pd_const pe_int (fun _ => .int _)) pda_nil)))) (pd_const pe_int (fun _ => .int _))) pda_nil)) (pgd_name (i := 9) (vs := [9]) (pg_name (i := 9) sc_law.nd rfl (.inl rfl)) (by show ¬ (9 ∈ ([] : List Nat)); decide) (by decide))
      (pdsc_cons (psc_up (psd_if (ptd_cmp op_eq op2_eq.op (pd_call D_law_take.ok (hr.mono (by decide)) (by rfl) D_law_take.mg D_law_take.kp D_law_take.b (takes_of rfl rfl rfl rfl) (pda_own (i := 2) (pv 2) (pda_cons (pd_const pe_int (fun _ => .int _)) pda_nil))) (pd_const pe_int (fun _ => .int _)) (nomark _)) (pds_cons (psd_set (i := 7) (pd_call D_law_cancelled.ok (hr.mono (by decide)) (by rfl) D_law_cancelled.mg D_law_cancelled.kp D_law_cancelled.b (takes_of rfl rfl rfl rfl) (pda_own (i := 2) (pv 2) (pda_own (i := 6) (pv 6) (pda_cons (pd_var (pv 7)) (pda_cons (pd_var (pv 3)) pda_nil))))) (by show ¬ (7 ∈ ([] : List Nat)); decide) sc_law.nd rfl (.inl rfl))
      (pds_one (psd_if (ptd_cmp op_isN op2_isN.op (pd_var (pv 7)) (pd_const pe_non (fun _ => .non)) (nomark _)) (pds_one (psd_ret (pd_const pe_bl (fun _ => .bl _)))) pds_nil))) (pds_cons (psd_setO (i := 10) (pd_call D_law_row.ok (hr.mono (by decide)) (by rfl) D_law_row.mg D_law_row.kp D_law_row.b (takes_of rfl rfl rfl rfl) (pda_own (i := 2) (pv 2) (pda_cons (pd_var (pv 3)) (pda_cons (pd_op op_cat op2_cat (pd_op op_rep op2_rep (pd_lst (fun h => pe_lst h) (pda_cons (pd_ix ix_list op2_ixL (pd_var (pv 4)) (pd_const pe_int (fun _ => .int _)) (fun _ _ => rfl)) pda_nil)) (pd_const pe_int (fun _ => .int _))) (pd_lst (fun h => pe_lst h) (pda_cons (pd_ix ix_list op2_ixL (pd_var (pv 4)) (pd_const pe_int (fun _ => .int _)) (fun _ _ => rfl)) pda_nil))) (pda_cons (pd_var (pv 5)) pda_nil))))) (by show ¬ (10 ∈ ([] : List Nat)); decide) sc_law.nd rfl (.inl rfl))
      (pds_cons (psd_if (ptd_cmp op_gt (op2_I0 fun _ _ _ => .bl _) (pd_call D_law_take.ok (hr.mono (by decide)) (by rfl) D_law_take.mg D_law_take.kp D_law_take.b (takes_of rfl rfl rfl rfl) (pda_own (i := 2) (pv 2) (pda_cons (pd_const pe_int (fun _ => .int _)) pda_nil))) (pd_const pe_int (fun _ => .int _)) (nomark _)) (pds_one (psd_setItem (j := 10) (fun h g => ps_asg h g) (fun ho hi hs => pg_sub ho hi hs) (pv 10) (pd_ix ix_list op2_ixL (pd_lst (fun h => pe_lst h) (pda_cons (pd_const pe_str (fun _ => .str (by decide +kernel))) (pda_cons (pd_const pe_str (fun _ => .str (by decide +kernel))) pda_nil))) (pd_op op_mod (op2_I fun _ _ _ => .int _) (pd_op op_fdivW (op2_I fun _ _ _ => .int _) (pd_var (pv 9)) (pd_const pe_int (fun _ => .int _))) (pd_const pe_int (fun _ => .int _))) (fun _ _ => rfl)) (pd_const pe_int (fun _ => .int _)))) pds_nil)
      (pds_cons (psd_if (ptd_cmp op_eq op2_eq.op (pd_call D_law_take.ok (hr.mono (by decide)) (by rfl) D_law_take.mg D_law_take.kp D_law_take.b (takes_of rfl rfl rfl rfl) (pda_own (i := 2) (pv 2) (pda_cons (pd_const pe_int (fun _ => .int _)) pda_nil))) (pd_const pe_int (fun _ => .int _)) (nomark _)) (pds_one (psd_setItem2 (j := 10) rfl (pv 10) (pka_cons (pd_op op_add (op2_I0 fun _ _ _ => .int _) (pd_ixO (i := 10) (pv 10) (pd_const pe_int (fun _ => .int _)) (fun _ _ => rfl)) (pd_op op_mul (op2_I fun _ _ _ => .int _) (pd_const pe_int (fun _ => .int _)) (pd_builtB (fun h => pe_callTy call_int1 (by rfl) T.b_int (by decide +kernel) h) cn_intB.op (pda_cons (pd_cmp op_lt (op2_I0 fun _ _ _ => .bl _) (pd_ixO (i := 10) (pv 10) (pd_const pe_int (fun _ => .int _)) (fun _ _ => rfl)) (pd_const pe_int (fun _ => .int _)) (nomark _)) pda_nil)))) (pka_cons (pd_ifExp (ptd_cmp op_eq op2_eq.op (pd_ixO (i := 10) (pv 10) (pd_const pe_int (fun _ => .int _)) (fun _ _ => rfl)) (pd_const pe_str (fun _ => .str (by decide +kernel))) (nomark _)) (pd_ix ix_list op2_ixL (pd_var (pv 5)) (pd_const pe_int (fun _ => .int _)) (fun _ _ => rfl)) (pd_ix ix_list op2_ixL (pd_var (pv 5)) (pd_neg (pd_const pe_int (fun _ => .int _))) (fun _ _ => rfl))) pka_nil)) (pd_const pe_int (fun _ => .int _)) (pd_const pe_int (fun _ => .int _)) (fun h g1 g2 => ps_asg (pe_tup h) (pg_tup rfl (pgs_cons g1 (pgs_cons g2 pgs_nil)))) (fun ho hi hs => pg_sub ho hi hs) (fun ho hi hs => pg_sub ho hi hs))) pds_nil)
      (pds_cons (psd_unpack (pd_call D_law_placed.ok (hr.mono (by decide)) (by rfl) D_law_placed.mg D_law_placed.kp D_law_placed.b (takes_of rfl rfl rfl rfl) (pda_cons (pd_var (pv 7)) (pda_cons (pd_var (pv 8)) (pda_cons (pd_fvar (i := 10) (pv 10) (by show ¬ (10 ∈ ([] : List Nat)); decide)) pda_nil)))) (pgd_tup (is := [11, 12]) (vs := [11, 12]) (pg_tup rfl (pgs_cons (pg_name (i := 11) sc_law.nd rfl (.inl rfl)) (pgs_cons (pg_name (i := 12) sc_law.nd rfl (.inl rfl)) pgs_nil))) rfl (by show ∀ i ∈ ([11, 12] : List Nat), ¬ (i ∈ ([] : List Nat)) ∧ i ∈ ([11, 12] : List Nat); decide)) (fun h g => ps_asg h g))
      (pds_cons (psd_if (PW.pt (pwd_or (ptd_cmp (op_neD hr.units) op2_neD.op (pd_methOS (j := 6) (pv 6) T.cl_OrderBook D_OrderBook_would_fill.me D_OrderBook_would_fill.ok (hr.mono (by decide)) D_OrderBook_would_fill.b (takes_of rfl rfl rfl rfl) (pda_cons (pd_call D_law_order.ok (hr.mono (by decide)) (by rfl) D_law_order.mg D_law_order.kp D_law_order.b (takes_of rfl rfl rfl rfl) (pda_cons (pd_fvar (i := 10) (pv 10) (by show ¬ (10 ∈ ([] : List Nat)); decide)) pda_nil)) pda_nil)) (pd_var (pv 12)) (nomark _)) (pwd_or1 (ptd_cmp (op_neD hr.units) op2_neD.op (pd_call D_law_plain.ok (hr.mono (by decide)) (by rfl) D_law_plain.mg D_law_plain.kp D_law_plain.b (takes_of rfl rfl rfl rfl) (pda_cons (pd_lc (own := [("pair", 13)]) (by rfl) sc_law.nd (pid_ownO (k := 1) (j := 6) I_OrderBook T.b_iter (hr.mono (by decide)) (pv 6)) (blkOk_by (own := [("pair", 13)]) (N := ["script", "at", "bag", "members", "things", "limits", "book", "rows", "number", "turn", "row", "later", "fills", "pair"]) (sc := defScope s_law) (by decide +kernel)) (fun _ _ _ _ _ => (pgd_name (i := 13) (vs := [13]) (pg_name (i := 13) sc_law.nd rfl (.inl rfl)) (by show ¬ (13 ∈ ([] : List Nat)); decide) (by decide))) (fun _ _ _ _ _ => ptsd_nil) (fun _ _ _ _ _ => (pd_var (pv 13))) (by show ∀ i ∈ ([13] : List Nat), ¬ (i ∈ ([] : List Nat)); decide)) pda_nil)) (pd_var (pv 7)) (nomark _))))) (pds_one (psd_ret (pd_const pe_bl (fun _ => .bl _)))) pds_nil)
      (pds_cons (psd_if (ptd_cmp (op_neD hr.units) op2_neD.op (pd_methOS (j := 6) (pv 6) T.cl_OrderBook D_OrderBook_place.me D_OrderBook_place.ok (hr.mono (by decide)) D_OrderBook_place.b (takes_of rfl rfl rfl rfl) (pda_cons (pd_call D_law_order.ok (hr.mono (by decide)) (by rfl) D_law_order.mg D_law_order.kp D_law_order.b (takes_of rfl rfl rfl rfl) (pda_cons (pd_fvar (i := 10) (pv 10) (by show ¬ (10 ∈ ([] : List Nat)); decide)) pda_nil)) pda_nil)) (pd_tup (fun h => pe_tup h) (pda_cons (pd_var (pv 8)) (pda_cons (pd_var (pv 12)) pda_nil))) (nomark _)) (pds_one (psd_ret (pd_const pe_bl (fun _ => .bl _)))) pds_nil)
      (pds_one (psd_par (i := 7) (j := 8) (oi := false) (oj := false) (pka_cons (pd_var (pv 11)) (pka_cons (pd_op op_add (op2_I0 fun _ _ _ => .int _) (pd_var (pv 8)) (pd_const pe_int (fun _ => .int _))) pka_nil)) (by show ¬ (7 ∈ ([] : List Nat)); decide) (by show ¬ (8 ∈ ([] : List Nat)); decide) (fun h => ps_par (i := 7) (j := 8) (by rfl) sc_law.nd rfl rfl (by decide) rfl rfl h (by rfl)) (by decide)))))))))))
      (pdsc_one (psc_if (ptc_not (ptc_val (pec_callG D_law_is_right.ok (hr.mono (by decide)) (by rfl) D_law_is_right.mg D_law_is_right.kp D_law_is_right.b (takes_of rfl rfl rfl rfl) (pda_own (i := 6) (pv 6) (pda_cons (pd_var (pv 7)) (pda_cons (pd_var (pv 3)) (pda_cons (pd_var (pv 4)) pda_nil))))) (fun h => pt_val h))) (pdsc_one (psc_up (psd_ret (pd_const pe_bl (fun _ => .bl _))))) pdsc_nil)))))))))
      (pdsc_one (psc_up (psd_ret (pd_const pe_bl (fun _ => .bl _)))))), ?_⟩
  rintro as Qd Ed ⟨zs, rfl, k⟩
  show seqC _ _ _ [some (.d (.ro (zs.map .int))), none, none, none, none, none, none, none, none, none, none, none, none, none] _
  with_reducible refine DR.cutC (fun δ cs => cs = [(PT, .tab PT lamQ)]) (fun N kN => ?_) ?_
  · refine DR.forCR ?_
    walk_at "dd"
    refine ⟨by dsimp only; split <;> (try split) <;> omega, by dsimp only; split <;> (try split) <;> omega, ?_⟩
    refine DR.forR_inv (fun i δ cs => cs = [(PT, .tab PT lamQ)] ∧ ∃ p1 p2 p3 p4 p5 p6 p7 p8 p9 p10 p11 p12 : Option DV, δ = [some (.d (.ro (zs.map .int))), p1, p2, p3, p4, p5, p6, p7, p8, p9, p10, p11, p12, none]) ⟨rfl, _, _, _, _, _, _, _, _, _, _, _, _, rfl⟩ ?step ?fin
    case fin =>
      rintro δ cs ⟨rfl, p1, p2, p3, p4, p5, p6, p7, p8, p9, p10, p11, p12, rfl⟩
      exact kN _ _ rfl
    case step =>
    rintro i x δ cs N hx ⟨rfl, p1, p2, p3, p4, p5, p6, p7, p8, p9, p10, p11, p12, rfl⟩ kN
    obtain ⟨rfl, hi⟩ := upto_at hx
    have hi4 : i < 4 := by
      refine Nat.lt_of_lt_of_le hi ?_
      dsimp only
      split <;> (try split) <;> omega
    refine DR.nameg ?_
    with_reducible refine DR.cutC (fun δ cs => cs = [(PT, .tab PT lamQ)] ∧ ∃ ys, Bg ys ∧ δ = [some (.d (.ro (zs.map .int))), some (.d (.int (i : Int))), some (.own (.lst ys)), p3, p4, p5, p6, p7, p8, p9, p10, p11, p12, none]) (fun N kN => ?_) ?_
    · refine DR.upC ?_
      walk_at "dd"
      refine ⟨zs, i, rfl, by omega, fun ys hb => ?_⟩
      walk_at "dd"
      exact kN _ _ ⟨rfl, ys, hb, rfl⟩
    rintro δ cs ⟨rfl, ys, hy, rfl⟩
    with_reducible refine DR.cutC (fun δ cs => cs = [(PT, .tab PT lamQ)] ∧ ∃ ys ms ts ls, Bg ys ∧ NmL ms ∧ NmL ts ∧ ts.length = 2 ∧ LmL ls ∧ δ = stL zs i ys ms ts ls [p6, p7, p8, p9, p10, p11, p12, none]) (fun N kN => ?_) ?_
    · refine DR.upC ?_
      walk_at "dd"
      refine names (n := 3) hy (by decide) (by decide) fun ms ys hm _ hy => ?_
      refine ⟨?_, ?_⟩ <;> (
        walk_at "dd"
        refine names (n := 2) hy (by decide) (by decide) fun ts ys ht ht2 hy => ?_
        refine ⟨?_, ?_⟩ <;> (
          walk_at "dd"
          refine ⟨ys, rfl, hy, fun ls ys hl hy => ?_⟩
          walk_at "dd"
          exact ⟨_, _, _, rfl, kN _ _ ⟨rfl, ys, ms, ts, ls, hy, nml hm, nml ht, ht2, hl, rfl⟩⟩))
    rintro δ cs ⟨rfl, ys, ms, ts, ls, hy, hm, ht, ht2, hl, rfl⟩
    obtain ⟨t0, t1, rfl⟩ : ∃ a b, ts = [a, b] := by
      match ts, ht2 with
      | [a, b], _ => exact ⟨a, b, rfl⟩
    with_reducible refine DR.cutC (fun δ cs => cs = [(PT, .tab PT lamQ)] ∧ δ = stL zs i ys ms [t0, t1] ls [bkV C OB [] 0, some (.d (rowsN [])), some (.d (.int 0)), p9, p10, p11, p12, none]) (fun N kN => ?_) ?_
    · refine DR.upC ?_
      walk_at "dd"
      refine ⟨rfl, rfl, _, rfl, ?_⟩
      walk_at "dd"
      exact ⟨_, _, _, rfl, kN _ _ ⟨rfl, rfl⟩⟩
    rintro δ cs ⟨rfl, rfl⟩
    refine DR.forCR ?_
    with_reducible refine DR.icut (fun xs δ => ∃ (m : Nat) (ys : List D), m ≤ 25 ∧ Bg ys ∧ xs = upto 0 m ∧ δ = stL zs i ys ms [t0, t1] ls [bkV C OB [] 0, some (.d (rowsN [])), some (.d (.int 0)), p9, p10, p11, p12, none]) (fun N2 kN2 => ?_) ?_
    · walk_at "dd"
      rcases zs with _ | ⟨z0, zs⟩
      · refine .inl (eqd_f (b := true) cmp_e.1 cmp_e.2 rfl ?_)
        walk_at "dd"
        exact ⟨by decide, by decide, kN2 _ _ ⟨6, _, by decide, hy, rfl, rfl⟩⟩
      · refine .inr ⟨_, _, .inr rfl, .inl rfl, (by simp), ?_⟩
        walk_at "dd"
        refine take hy (by decide) (by decide) fun r ys r0 r1 hy => ?_
        walk_at "dd"
        exact ⟨by omega, by omega, kN2 _ _ ⟨(6 + r).toNat, _, by omega, hy, rfl, rfl⟩⟩
    rintro xs δ ⟨m, ys, hm24, hy, rfl, rfl⟩
    refine DR.forR_inv (fun j δ cs => cs = [(PT, .tab PT lamQ)] ∧ ∃ (ys : List D) (rs : List Rw) (n : Nat) (p9 p10 p11 p12 : Option DV), Bg ys ∧ BkOk rs n ∧ Asc rs ∧ n ≤ j ∧ δ = stL zs i ys ms [t0, t1] ls [bkV C OB rs n, some (.d (rowsN rs)), some (.d (.int (n : Int))), p9, p10, p11, p12, none]) ⟨rfl, ys, [], 0, p9, p10, p11, p12, hy, bk0, .nil, Nat.le_refl _, rfl⟩ ?_ ?_
    · rintro j x δ cs N0 hx ⟨rfl, ys, rs, n, p9, p10, p11, p12, hy, hb, ha, hnj, rfl⟩ kN0
      obtain ⟨rfl, hj⟩ := upto_at hx
      have hjm : j < 25 := by omega
      have hrl : rs.length ≤ 100 := Nat.le_trans hb.ln (by omega)
      refine DR.nameg ?_
      with_reducible refine DR.cutC (fun δ cs => cs = [(PT, .tab PT lamQ)] ∧ ∃ (ys : List D) (rs : List Rw) (n : Nat) (p10 p11 p12 : Option DV), Bg ys ∧ BkOk rs n ∧ Asc rs ∧ n ≤ j + 1 ∧ δ = stL zs i ys ms [t0, t1] ls [bkV C OB rs n, some (.d (rowsN rs)), some (.d (.int (n : Int))), some (.d (.int (j : Int))), p10, p11, p12, none]) (fun N kN => ?_) ?_
      · refine DR.upC ?_
        walk_at "dd"
        refine take hy (by decide) (by decide) fun r ys r00 r01 hy => ?_
        walk_at "dd"
        refine DR.split (fun c => ?_) (fun c => ?_)
        · walk_at "dd"
          refine ⟨ys, rs, n, ms, rfl, hy, hb, by omega, hm.1, hm.2.1, fun c ys hy => ?_⟩
          walk_at "dd"
          refine ⟨false, rfl, ⟨(fun h => nomatch h), (fun h => nomatch h)⟩, ?_⟩
          walk_at "dd"
          exact kN _ _ ⟨rfl, ys, rs.filter c, n, p10, p11, p12, hy, filter_ok c hb, asc_filter ha, by omega, rfl⟩
        with_reducible refine DR.cut (fun δ => ∃ (ys : List D) (om ot : Str) (ob : Bool) (q l : Int), Bg ys ∧ OdOk ⟨om, ot, ob, q, l⟩ ∧ δ = stL zs i ys ms [t0, t1] ls [bkV C OB rs n, some (.d (rowsN rs)), some (.d (.int (n : Int))), some (.d (.int (j : Int))), some (.own (.lst (rowL om ot ob q l))), p11, p12, none]) (fun N2 kN2 => ?_) ?_
        · walk_at "dd"
          refine ⟨_, _, .inl rfl, (by with_unfolding_all rfl), ?_⟩
          walk_at "dd"
          refine ⟨by decide, by decide, by show 1 * 6 ≤ sizeLine; decide, ?_⟩
          walk_at "dd"
          refine ⟨_, _, .inl rfl, (by with_unfolding_all rfl), ?_⟩
          walk_at "dd"
          refine ⟨by show 6 + 1 ≤ sizeLine; decide, ?_⟩
          walk_at "dd"
          refine ⟨ys, ms, [t0, t0, t0, t0, t0, t0, t1], ls, rfl, hy, hm, ⟨(fun h => nomatch h), (by show 7 < 1000; decide), fun g hg => ht.2.2 g (by simp at hg ⊢; exact hg)⟩, hl, fun om ot ob q l ys hod hy => ?_⟩
          walk_at "dd"
          exact kN2 _ ⟨ys, om, ot, ob, q, l, hy, hod, rfl⟩
        rintro δ ⟨ys, om, ot, ob, q, l, hy, hod, rfl⟩
        with_reducible refine DR.cut (fun δ => ∃ (ys : List D) (ob : Bool), Bg ys ∧ OdOk ⟨om, ot, ob, q, l⟩ ∧ δ = stL zs i ys ms [t0, t1] ls [bkV C OB rs n, some (.d (rowsN rs)), some (.d (.int (n : Int))), some (.d (.int (j : Int))), some (.own (.lst (rowL om ot ob q l))), p11, p12, none]) (fun N2 kN2 => ?_) ?_
        · walk_at "dd"
          refine take hy (by decide) (by decide) fun r ys r00 r01 hy => ?_
          walk_at "dd"
          refine DR.split (fun c => ?_) (fun c => ?_)
          · have h2 : (j : Int) / 5 % 2 = 0 ∨ (j : Int) / 5 % 2 = 1 := by omega
            obtain ⟨b2, hb2⟩ : ∃ b2 : Bool, atI [D.str "buy", D.str "sell"] ((j : Int) / 5 % 2) = some (.str (side b2)) := by
              rcases h2 with h | h
              · rw [h]; exact ⟨true, by with_unfolding_all rfl⟩
              · rw [h]; exact ⟨false, by with_unfolding_all rfl⟩
            walk_at "dd"
            refine ⟨_, _, .inl rfl, hb2, ?_⟩
            walk_at "dd"
            exact kN2 _ ⟨ys, b2, hy, hod, rfl⟩
          · walk_at "dd"
            exact kN2 _ ⟨ys, ob, hy, hod, rfl⟩
        rintro δ ⟨ys, ob, hy, hod, rfl⟩
        with_reducible refine DR.cut (fun δ => ∃ (ys : List D) (q l : Int), Bg ys ∧ OdOk ⟨om, ot, ob, q, l⟩ ∧ δ = stL zs i ys ms [t0, t1] ls [bkV C OB rs n, some (.d (rowsN rs)), some (.d (.int (n : Int))), some (.d (.int (j : Int))), some (.own (.lst (rowL om ot ob q l))), p11, p12, none]) (fun N2 kN2 => ?_) ?_
        · walk_at "dd"
          refine take hy (by decide) (by decide) fun r ys r00 r01 hy => ?_
          walk_at "dd"
          refine DR.split (fun c => ?_) (fun c => ?_)
          · walk_at "dd"
            refine ⟨_, rfl, ?_⟩
            walk_at "dd"
            obtain ⟨l0, h0m, e0⟩ : ∃ l0 ∈ ls, atI (ls.map D.int) 0 = some (.int l0) := by
              match ls, hl.1 with
              | a :: _, _ => exact ⟨a, List.mem_cons_self, at0⟩
            obtain ⟨l1, h1m, e1⟩ := atM (f := D.int) hl.1
            have hq : 1 ≤ q + 6 * (if decide (q < 10) = true then 1 else 0) ∧ q + 6 * (if decide (q < 10) = true then 1 else 0) ≤ 1000000 := by
              have q1 : 1 ≤ q := hod.2.2.1
              have q2 : q ≤ 1000000 := hod.2.2.2.1
              by_cases h : q < 10
              · rw [if_pos (decide_eq_true h)]; omega
              · rw [if_neg (by rw [decide_eq_false h]; exact Bool.false_ne_true)]; omega
            cases ob with
            | true =>
              rw [show decide (side true = Str.ofString "buy") = true from by decide]
              walk_at "dd"
              refine ⟨_, _, .inl rfl, e0, ?_⟩
              walk_at "dd"
              exact kN2 _ ⟨ys, _, l0, hy, ⟨hod.1, hod.2.1, hq.1, hq.2, hl.2.2 l0 h0m⟩, rfl⟩
            | false =>
              rw [show decide (side false = Str.ofString "buy") = false from by decide]
              walk_at "dd"
              refine ⟨_, _, .inl rfl, e1, ?_⟩
              walk_at "dd"
              exact kN2 _ ⟨ys, _, l1, hy, ⟨hod.1, hod.2.1, hq.1, hq.2, hl.2.2 l1 h1m⟩, rfl⟩
          · walk_at "dd"
            exact kN2 _ ⟨ys, q, l, hy, hod, rfl⟩
        rintro δ ⟨ys, q, l, hy, hod, rfl⟩
        obtain ⟨o, rfl, rfl, rfl, rfl, rfl⟩ : ∃ o : Od, om = o.m ∧ ot = o.t ∧ ob = o.b ∧ q = o.n ∧ l = o.l := ⟨⟨om, ot, ob, q, l⟩, rfl, rfl, rfl, rfl, rfl⟩
        replace hod : OdOk o := hod
        have hb2 := place_ok hb hod
        with_reducible refine DR.cut (fun δ => δ = stL zs i ys ms [t0, t1] ls [bkV C OB rs n, some (.d (rowsN rs)), some (.d (.int (n : Int))), some (.d (.int (j : Int))), some (.d (.lst (rowO o))), some (.d (rowsN (placeR rs n o))), some (.d (fsD (mat rs o).fs)), none]) (fun N2 kN2 => ?_) ?_
        · walk_at "dd"
          refine ⟨rs, n, o, rfl, hb, ha, by omega, hod, ?_⟩
          walk_at "dd"
          exact kN2 _ rfl
        rintro δ rfl
        with_reducible refine DR.cut (fun δ => δ = stL zs i ys ms [t0, t1] ls [bkV C OB rs n, some (.d (rowsN rs)), some (.d (.int (n : Int))), some (.d (.int (j : Int))), some (.d (.lst (rowO o))), some (.d (rowsN (placeR rs n o))), some (.d (fsD (mat rs o).fs)), none]) (fun N2 kN2 => ?_) ?_
        · walk_at "dd"
          refine ⟨o, rfl, hod, ?_⟩
          walk_at "dd"
          refine ⟨rs, n, o, rfl, by omega, ?_⟩
          walk_at "dd"
          refine ne_self (d := fsD (mat rs o).fs) cmp_fs ?_
          walk_at "dd"
          refine DR.lc_mapM (rwD C) (fun r acc N3 hr hlt kN3 => ?_) ?_
          · walk_at "dd"
            exact ⟨Nat.lt_of_lt_of_le hlt (Nat.le_trans hrl (by decide)), kN3⟩
          walk_at "dd"
          refine ⟨rs, .inl rfl, by omega, ?_⟩
          walk_at "dd"
          refine ne_self (d := rowsN rs) cmp_rowsN ?_
          walk_at "dd"
          exact kN2 _ rfl
        rintro δ rfl
        with_reducible refine DR.cut (fun δ => δ = stL zs i ys ms [t0, t1] ls [bkV C OB (placeR rs n o) (n + 1), some (.d (rowsN rs)), some (.d (.int (n : Int))), some (.d (.int (j : Int))), some (.d (.lst (rowO o))), some (.d (rowsN (placeR rs n o))), some (.d (fsD (mat rs o).fs)), none]) (fun N2 kN2 => ?_) ?_
        · walk_at "dd"
          refine ⟨o, rfl, hod, ?_⟩
          walk_at "dd"
          refine ⟨rs, n, o, rfl, hb, by omega, hod, ?_⟩
          walk_at "dd"
          refine ne_self (d := .tup [.int (n : Int), fsD (mat rs o).fs]) cmp_place ?_
          walk_at "dd"
          exact kN2 _ rfl
        rintro δ rfl
        walk_at "dd"
        exact kN _ _ ⟨rfl, ys, placeR rs n o, n + 1, _, _, _, hy, hb2, asc_place hb ha, by omega, rfl⟩
      · rintro δ cs ⟨rfl, ys, rs, n, p10, p11, p12, hy, hb, ha, hnj, rfl⟩
        refine DR.ifC (DR.notC (DR.tvC (DR.callG (List.mem_singleton.mpr rfl) ?_)))
        walk_at "dd"
        refine ⟨rs, n, ms, [t0, t1], rfl, hb, by omega, ?_⟩
        walk_at "dd"
        exact kN0 _ _ ⟨rfl, ys, rs, n, _, p10, p11, p12, hy, hb, ha, by omega, rfl⟩
    · rintro δ cs ⟨rfl, ys, rs, n, p9, p10, p11, p12, hy, hb, ha, hnj, rfl⟩
      exact kN _ _ ⟨rfl, _, _, _, _, _, _, _, _, _, _, _, _, rfl⟩
  · rintro δ cs rfl
    refine DR.upC ?_
    walk_at "dd"
    exact ⟨rfl, _, rfl, k⟩
end
end KT

set_option Elab.async false
set_option linter.all false
set_option maxRecDepth 100000
set_option maxHeartbeats 0
set_option pp.deepTerms false
set_option pp.deepTerms.threshold 8

namespace KT
open PySem PySem.Spec PyProof.Rows L2 DL
theorem reps_ints {K : PySem.W.Frag} {F : Hp} : ∀ {ns : List Int}, RepL K F (ns.map V.int) (ns.map D.int)
  | [] => .nil
  | _ :: _ => .cons (.int _) reps_ints
theorem law_in {K : PySem.W.Frag} {H : Hp} {a PT : Addr} {ns : List Int} (hT : H PT = some (.tbl #[])) (h : SqL K H a (ns.map V.int)) : spG K PT lamQ sdLaw [.ref a] H (fun v _ => v = .bl true) fun _ _ _ => False := by
  let F : Hp := fun b => if b = PT then none else H b
  have g1 : F PT = none := if_pos rfl
  have g2 : ∀ b, b ≠ PT → F b = H b := fun b h => if_neg h
  have sF : Same F H := fun b u e => by
    by_cases z : b = PT
    · rw [z, g1] at e; cases e
    · rw [g2 b z] at e; exact e
  have h' : SqL K F a (ns.map V.int) := by
    rcases h with h | h
    · have na : a ≠ PT := fun z => by
        rw [z] at h
        rcases h with h | ⟨o, h⟩ <;> (rw [hT] at h; cases h)
      refine .inl ?_
      rcases h with h | ⟨o, h⟩
      · exact .inl ((g2 a na).trans h)
      · exact .inr ⟨o, (g2 a na).trans h⟩
    · exact .inr h
  refine ⟨F, [.d (.ro (ns.map .int))], [], fun x _ => x = .d (.bl true), fun _ _ => False, sF, .d (.ro h' reps_ints) .nil, g1, (fun z => nomatch z), ⟨rfl, #[], hT, True.intro, fun pos cv hc => ?_⟩, ⟨ns, rfl, rfl⟩, fun v x os F' H' q P r => ?_, fun _ _ _ _ _ _ z => z.elim⟩
  · have z : codeAmong pos [] = some cv := hc
    simp [codeAmong] at z
  · subst q
    replace r : Rep K F' v (.bl true) := r
    cases r
    rfl
/-- the end with the table of one def's code object -/
theorem walk_ofTab {l : PySem.W.OpenLaw} {n k : Nat} {q : Program} {loose : List Str} {XP : (Str → Option Value) → Heap → Prop} {YP : World → Heap → Prop} {d dr : DefRec} {K : Params → PySem.W.Frag} {CX : World → CXT} {x tn : Str}
    (hn : l.most = some n) (hn2 : n ≤ sizeLine) (hdf : d.params.defaults = []) (hr : Room k callerA) (hrec : (recsOf q).find? (fun e => e.name == tn) = some dr) (hY : ∀ (w : World) (h : Heap), YP w h → (K w.params).In h)
    (F : ∀ (w : World) (mg : Str → Option Value) (fa : Addr) (h : Heap), (K w.params).In h → h.Ns mainGlobals mg → mg d.name = some (.ref fa) → (∀ c P, PySem.W.tabIn (K w.params) tn = some (c, P) → PySem.W.CodeHd h c P ∧ h.get? P = some { cls := .none, data := .fields #[] }) → LamX.LawAtS l w (K w.params) (CX w) k n x mg fa h)
    (hCX : ∀ (w : World) (H : Hp) (s : Shared) (e : Value) (s' : Shared), CX w [] H s (fun _ _ _ => False) e s' → False) :
    PySem.W.WalkO q loose XP YP l.row.toRowW d [] (fun f vs => PySem.call f vs) := by
  refine Att.attach_callB hn hdf fun w s₀ s₁ mg mb fa o pm cd doc a vs ns G Y ho hd hcd hmg hobj hints hlen hbits hg => ?_
  have KX := hY w _ Y
  obtain ⟨fd, cs, sp, hT, nT, C, hb, hsp, hF⟩ := F w mg fa _ KX G.T.g hmg fun c P h => PySem.W.tab_of G.T KX hrec h
  exact LamX.law_callTs KX G.T.g G.T.b G.T.builtins G.T.nolimit hg hT nT C G.T.bmain hobj hints (Nat.le_trans hlen hn2) hr hF hb (fun H hH hS => hsp H a ns hlen hbits hH hS) fun H e s' => hCX w H s₁ e s'
theorem cx_none {P : Program} {w : World} {H : Hp} {s s' : Shared} {e : Value} (h : L2.CX P w [] H s (fun _ _ _ => False) e s') : False := by
  obtain ⟨_, _, _, _, _, _, _, _, _, _, _, _, z⟩ := h
  exact z
theorem kit_ref2 {K : PySem.W.Frag} {B M : Addr} {r : Bool} (ne : B ≠ M) (ic : PySem.W.isClsIn K M = true) (ty : PySem.W.typeIn K (.ref M) = some (.type "type")) (s : PySem.W.subIn K (.ref B) (.ref M) = some r) : PySem.W.kitOne K (.ref B) (.ref M) = some r := by
  have ic' : (PySem.W.clsIn K M).isSome = true := ic
  unfold PySem.W.kitOne
  rw [if_neg (by simp [ne])]
  show (if ((PySem.W.clsIn K M).isSome && PySem.W.typeIn K (.ref M) == some (.type "type")) = true then PySem.W.subIn K (.ref B) (.ref M) else none) = _
  rw [if_pos (by rw [ic', ty]; simp)]
  exact s
theorem kit_ref3 {K : PySem.W.Frag} {B M : Addr} (ic : PySem.W.isClsIn K M = true) (ty : PySem.W.typeIn K (.ref M) = some (.type "type")) (s : PySem.W.subIn K (.ref B) (.ref M) = some true) : PySem.W.kitOne K (.ref B) (.ref M) = some true := by
  by_cases ne : B = M
  · subst ne
    unfold PySem.W.kitOne
    simp
  · exact kit_ref2 ne ic ty s
theorem exm_ref {K : PySem.W.Frag} {B M : Addr} {r : Bool} (ex : PySem.W.subIn K (.ref M) (.type "BaseException") = some true) (ic : PySem.W.isClsIn K M = true) (ty : PySem.W.typeIn K (.ref M) = some (.type "type")) (s : PySem.W.subIn K (.ref B) (.ref M) = some r) : PySem.W.exmOne K (.ref B) (.ref M) = some r := by
  have ic' : (PySem.W.clsIn K M).isSome = true := ic
  unfold PySem.W.exmOne
  rw [if_pos (by rw [ex]; rfl)]
  show (if ((PySem.W.clsIn K M).isSome && PySem.W.typeIn K (.ref M) == some (.type "type")) = true then PySem.W.subIn K (.ref B) (.ref M) else none) = _
  rw [if_pos (by rw [ic', ty]; simp)]
  exact s
theorem kit_ty {K : PySem.W.Frag} {B : Addr} {n : String} {r : Bool} (km : PySem.W.kitMeta n = true) (s : PySem.W.subIn K (.ref B) (.type n) = some r) : PySem.W.kitOne K (.ref B) (.type n) = some r := by
  unfold PySem.W.kitOne
  rw [if_neg (by simp)]
  show (if PySem.W.kitMeta n = true then PySem.W.subIn K (.ref B) (.type n) else none) = _
  rw [if_pos km]
  exact s
end KT

set_option Elab.async false
set_option linter.all false
set_option maxRecDepth 100000
set_option maxHeartbeats 0
set_option pp.deepTerms false
set_option pp.deepTerms.threshold 8

namespace KT
open PySem PySem.Spec PyProof.Rows L2 DL
theorem ns_ok {K : PySem.W.Frag} {N : Addr} {c : Value} {d : Option Addr} {es : Array DictEntry} {n : Nat} {sl : Array (Option Value)} (l : K.lookup N = some ⟨c, d, .dict es n, sl⟩) (q : (es.toList.all fun e => match e.key with | .str _ _ => true | _ => false) = true) : PySem.W.nsOkIn K N = true := by
  unfold PySem.W.nsOkIn
  rw [l]
  show (es.all fun e => match e.key with | .str _ _ => true | _ => false) = true
  rw [← Array.all_toList]
  exact q
theorem fn_of_ty {K : PySem.W.Frag} {f : Addr} (t : PySem.W.typeIn K (.ref f) = some (.type "function")) : ∃ of, K.lookup f = some of ∧ of.cls = .type "function" := by
  obtain ⟨o, ho, e⟩ := Option.map_eq_some_iff.mp (show (K.lookup f).map (·.cls) = some (.type "function") from t)
  exact ⟨o, ho, e⟩
theorem all_mk {l : PySem.W.OpenLaw} {w : World} {K : PySem.W.Frag} {h : Heap} {mg : Str → Option Value} {fa : Addr} (X : K.In h) (G : h.Ns mainGlobals mg) (hfa : mg "law" = some (.ref fa))
    {C f_oinit p_sign f_sign f_of_count f_oeq OB f_binit f_place f_order f_cancel f_cancel_all f_open_of f_best f_levels f_side f_would_fill f_iter f_len ca PT ME NC NO NNO f_xiNO f_is_name f_is_thing_name f_is_integer f_is_whole f_meets f_rank f_fill f_matched f_less f_law_bag f_law_take f_law_of f_law_names f_law_far f_law_order f_law_row f_law_limits f_law_first f_law_placed f_law_plain f_law_ranked f_law_levels f_law_is_right f_law_cancelled f_law : Addr} {r_sign : List Value} {t_Order_BUY : Nat} {t_Order_SELL : Nat} {oc_oinit : Value} {od_oinit : Option Addr} {an_oinit : Option Addr} {sl_oinit : Array (Option Value)} {kV_oinit : Value} {dc_oinit : Value} {pm_oinit : Value} {cd_oinit : Value} {ct_oinit : Value} {oc_sign : Value} {od_sign : Option Addr} {an_sign : Option Addr} {sl_sign : Array (Option Value)} {kV_sign : Value} {dc_sign : Value} {pm_sign : Value} {cd_sign : Value} {ct_sign : Value} {oc_of_count : Value} {od_of_count : Option Addr} {an_of_count : Option Addr} {sl_of_count : Array (Option Value)} {kV_of_count : Value} {dc_of_count : Value} {pm_of_count : Value} {cd_of_count : Value} {ct_of_count : Value} {oc_oeq : Value} {od_oeq : Option Addr} {an_oeq : Option Addr} {sl_oeq : Array (Option Value)} {kV_oeq : Value} {dc_oeq : Value} {pm_oeq : Value} {cd_oeq : Value} {ct_oeq : Value} {oc_binit : Value} {od_binit : Option Addr} {an_binit : Option Addr} {sl_binit : Array (Option Value)} {kV_binit : Value} {dc_binit : Value} {pm_binit : Value} {cd_binit : Value} {ct_binit : Value} {oc_place : Value} {od_place : Option Addr} {an_place : Option Addr} {sl_place : Array (Option Value)} {kV_place : Value} {dc_place : Value} {pm_place : Value} {cd_place : Value} {ct_place : Value} {oc_order : Value} {od_order : Option Addr} {an_order : Option Addr} {sl_order : Array (Option Value)} {kV_order : Value} {dc_order : Value} {pm_order : Value} {cd_order : Value} {ct_order : Value} {oc_cancel : Value} {od_cancel : Option Addr} {an_cancel : Option Addr} {sl_cancel : Array (Option Value)} {kV_cancel : Value} {dc_cancel : Value} {pm_cancel : Value} {cd_cancel : Value} {ct_cancel : Value} {oc_cancel_all : Value} {od_cancel_all : Option Addr} {an_cancel_all : Option Addr} {sl_cancel_all : Array (Option Value)} {kV_cancel_all : Value} {dc_cancel_all : Value} {pm_cancel_all : Value} {cd_cancel_all : Value} {ct_cancel_all : Value} {oc_open_of : Value} {od_open_of : Option Addr} {an_open_of : Option Addr} {sl_open_of : Array (Option Value)} {kV_open_of : Value} {dc_open_of : Value} {pm_open_of : Value} {cd_open_of : Value} {ct_open_of : Value} {oc_best : Value} {od_best : Option Addr} {an_best : Option Addr} {sl_best : Array (Option Value)} {kV_best : Value} {dc_best : Value} {pm_best : Value} {cd_best : Value} {ct_best : Value} {oc_levels : Value} {od_levels : Option Addr} {an_levels : Option Addr} {sl_levels : Array (Option Value)} {kV_levels : Value} {dc_levels : Value} {pm_levels : Value} {cd_levels : Value} {ct_levels : Value} {oc_side : Value} {od_side : Option Addr} {an_side : Option Addr} {sl_side : Array (Option Value)} {kV_side : Value} {dc_side : Value} {pm_side : Value} {cd_side : Value} {ct_side : Value} {oc_would_fill : Value} {od_would_fill : Option Addr} {an_would_fill : Option Addr} {sl_would_fill : Array (Option Value)} {kV_would_fill : Value} {dc_would_fill : Value} {pm_would_fill : Value} {cd_would_fill : Value} {ct_would_fill : Value} {oc_iter : Value} {od_iter : Option Addr} {an_iter : Option Addr} {sl_iter : Array (Option Value)} {kV_iter : Value} {dc_iter : Value} {pm_iter : Value} {cd_iter : Value} {ct_iter : Value} {oc_len : Value} {od_len : Option Addr} {an_len : Option Addr} {sl_len : Array (Option Value)} {kV_len : Value} {dc_len : Value} {pm_len : Value} {cd_len : Value} {ct_len : Value} {nmC : Str} {qnC : Str} {bsC : List Value} {snC : List Str} {subC : List Value} {abC : Bool} {colC : Option Bool} {ddC : Option Addr} {i0C : Option Value} {i1C : Option Value} {i2C : Option Value} {i3C : Option Value} {i5C : Option Value} {hdC : Bool} {newC : String} {clN : Value} {ddN : Option Addr} {esN : Array DictEntry} {nN : Nat} {slN : Array (Option Value)} {nmNO : Str} {qnNO : Str} {bsNO : List Value} {bmNO : List Value} {snNO : List Str} {subNO : List Value} {abNO : Bool} {colNO : Option Bool} {ddNO : Option Addr} {i0NO : Option Value} {i1NO : Option Value} {i2NO : Option Value} {i3NO : Option Value} {i5NO : Option Value} {oc_xiNO : Value} {od_xiNO : Option Addr} {an_xiNO : Option Addr} {sl_xiNO : Array (Option Value)} {kV_xiNO : Value} {dc_xiNO : Value} {pm_xiNO : Value} {cd_xiNO : Value} {ct_xiNO : Value} {oc_is_name : Value} {od_is_name : Option Addr} {an_is_name : Option Addr} {sl_is_name : Array (Option Value)} {kV_is_name : Value} {dc_is_name : Value} {pm_is_name : Value} {cd_is_name : Value} {ct_is_name : Value} {oc_is_thing_name : Value} {od_is_thing_name : Option Addr} {an_is_thing_name : Option Addr} {sl_is_thing_name : Array (Option Value)} {kV_is_thing_name : Value} {dc_is_thing_name : Value} {pm_is_thing_name : Value} {cd_is_thing_name : Value} {ct_is_thing_name : Value} {oc_is_integer : Value} {od_is_integer : Option Addr} {an_is_integer : Option Addr} {sl_is_integer : Array (Option Value)} {kV_is_integer : Value} {dc_is_integer : Value} {pm_is_integer : Value} {cd_is_integer : Value} {ct_is_integer : Value} {oc_is_whole : Value} {od_is_whole : Option Addr} {an_is_whole : Option Addr} {sl_is_whole : Array (Option Value)} {kV_is_whole : Value} {dc_is_whole : Value} {pm_is_whole : Value} {cd_is_whole : Value} {ct_is_whole : Value} {oc_meets : Value} {od_meets : Option Addr} {an_meets : Option Addr} {sl_meets : Array (Option Value)} {kV_meets : Value} {dc_meets : Value} {pm_meets : Value} {cd_meets : Value} {ct_meets : Value} {oc_rank : Value} {od_rank : Option Addr} {an_rank : Option Addr} {sl_rank : Array (Option Value)} {kV_rank : Value} {dc_rank : Value} {pm_rank : Value} {cd_rank : Value} {ct_rank : Value} {oc_fill : Value} {od_fill : Option Addr} {an_fill : Option Addr} {sl_fill : Array (Option Value)} {kV_fill : Value} {dc_fill : Value} {pm_fill : Value} {cd_fill : Value} {ct_fill : Value} {oc_matched : Value} {od_matched : Option Addr} {an_matched : Option Addr} {sl_matched : Array (Option Value)} {kV_matched : Value} {dc_matched : Value} {pm_matched : Value} {cd_matched : Value} {ct_matched : Value} {oc_less : Value} {od_less : Option Addr} {an_less : Option Addr} {sl_less : Array (Option Value)} {kV_less : Value} {dc_less : Value} {pm_less : Value} {cd_less : Value} {ct_less : Value} {oc_law_bag : Value} {od_law_bag : Option Addr} {an_law_bag : Option Addr} {sl_law_bag : Array (Option Value)} {kV_law_bag : Value} {dc_law_bag : Value} {pm_law_bag : Value} {cd_law_bag : Value} {ct_law_bag : Value} {oc_law_take : Value} {od_law_take : Option Addr} {an_law_take : Option Addr} {sl_law_take : Array (Option Value)} {kV_law_take : Value} {dc_law_take : Value} {pm_law_take : Value} {cd_law_take : Value} {ct_law_take : Value} {oc_law_of : Value} {od_law_of : Option Addr} {an_law_of : Option Addr} {sl_law_of : Array (Option Value)} {kV_law_of : Value} {dc_law_of : Value} {pm_law_of : Value} {cd_law_of : Value} {ct_law_of : Value} {oc_law_names : Value} {od_law_names : Option Addr} {an_law_names : Option Addr} {sl_law_names : Array (Option Value)} {kV_law_names : Value} {dc_law_names : Value} {pm_law_names : Value} {cd_law_names : Value} {ct_law_names : Value} {oc_law_far : Value} {od_law_far : Option Addr} {an_law_far : Option Addr} {sl_law_far : Array (Option Value)} {kV_law_far : Value} {dc_law_far : Value} {pm_law_far : Value} {cd_law_far : Value} {ct_law_far : Value} {oc_law_order : Value} {od_law_order : Option Addr} {an_law_order : Option Addr} {sl_law_order : Array (Option Value)} {kV_law_order : Value} {dc_law_order : Value} {pm_law_order : Value} {cd_law_order : Value} {ct_law_order : Value} {oc_law_row : Value} {od_law_row : Option Addr} {an_law_row : Option Addr} {sl_law_row : Array (Option Value)} {kV_law_row : Value} {dc_law_row : Value} {pm_law_row : Value} {cd_law_row : Value} {ct_law_row : Value} {oc_law_limits : Value} {od_law_limits : Option Addr} {an_law_limits : Option Addr} {sl_law_limits : Array (Option Value)} {kV_law_limits : Value} {dc_law_limits : Value} {pm_law_limits : Value} {cd_law_limits : Value} {ct_law_limits : Value} {oc_law_first : Value} {od_law_first : Option Addr} {an_law_first : Option Addr} {sl_law_first : Array (Option Value)} {kV_law_first : Value} {dc_law_first : Value} {pm_law_first : Value} {cd_law_first : Value} {ct_law_first : Value} {oc_law_placed : Value} {od_law_placed : Option Addr} {an_law_placed : Option Addr} {sl_law_placed : Array (Option Value)} {kV_law_placed : Value} {dc_law_placed : Value} {pm_law_placed : Value} {cd_law_placed : Value} {ct_law_placed : Value} {oc_law_plain : Value} {od_law_plain : Option Addr} {an_law_plain : Option Addr} {sl_law_plain : Array (Option Value)} {kV_law_plain : Value} {dc_law_plain : Value} {pm_law_plain : Value} {cd_law_plain : Value} {ct_law_plain : Value} {oc_law_ranked : Value} {od_law_ranked : Option Addr} {an_law_ranked : Option Addr} {sl_law_ranked : Array (Option Value)} {kV_law_ranked : Value} {dc_law_ranked : Value} {pm_law_ranked : Value} {ct_law_ranked : Value} {oc_law_levels : Value} {od_law_levels : Option Addr} {an_law_levels : Option Addr} {sl_law_levels : Array (Option Value)} {kV_law_levels : Value} {dc_law_levels : Value} {pm_law_levels : Value} {cd_law_levels : Value} {ct_law_levels : Value} {oc_law_is_right : Value} {od_law_is_right : Option Addr} {an_law_is_right : Option Addr} {sl_law_is_right : Array (Option Value)} {kV_law_is_right : Value} {dc_law_is_right : Value} {pm_law_is_right : Value} {cd_law_is_right : Value} {ct_law_is_right : Value} {oc_law_cancelled : Value} {od_law_cancelled : Option Addr} {an_law_cancelled : Option Addr} {sl_law_cancelled : Array (Option Value)} {kV_law_cancelled : Value} {dc_law_cancelled : Value} {pm_law_cancelled : Value} {cd_law_cancelled : Value} {ct_law_cancelled : Value} {oc_law : Value} {od_law : Option Addr} {an_law : Option Addr} {sl_law : Array (Option Value)} {kV_law : Value} {dc_law : Value} {pm_law : Value} {cd_law : Value} {ct_law : Value} {t_MOST : Nat} {t_MOST_COUNT : Nat} {t__CASH : Nat} {t__LETTERS : Nat} {t__LONGEST_NAME : Nat}
    (c_Order : PySem.W.nsIn K mainGlobals "Order" = some (some (.ref C)))
    (pg_Order : PySem.W.plainGet K C Str.empty = true)
    (hd_Order : PySem.W.hasDictIn K C = true)
    (po_Order : PySem.W.plainOver K C = true)
    (sa_Order : PySem.W.findIn K (.ref C) "__setattr__" = some (some (.builtin "object.__setattr__")))
    (mk_Order : PySem.W.makesIn K C = true)
    (kp_Order : PySem.W.keepIn K (.ref C) = true)
    (n_Order_member : PySem.W.findIn K (.ref C) "member" = some none)
    (n_Order_thing : PySem.W.findIn K (.ref C) "thing" = some none)
    (n_Order_side : PySem.W.findIn K (.ref C) "side" = some none)
    (n_Order_count : PySem.W.findIn K (.ref C) "count" = some none)
    (n_Order_limit : PySem.W.findIn K (.ref C) "limit" = some none)
    (rd_Order : PySem.W.readsIn K C (.type "type") = true)
    (ga_Order : PySem.W.specialIn K (.ref C) "__getattribute__" = some (some (.builtin "type.__getattribute__")))
    (v_Order_BUY : PySem.W.findCls K (.ref C) (.type "type") "BUY" = some (.val (.str "buy" t_Order_BUY)))
    (v_Order_SELL : PySem.W.findCls K (.ref C) (.type "type") "SELL" = some (.val (.str "sell" t_Order_SELL)))
    (a_oinit : PySem.W.findIn K (.ref C) "__init__" = some (some (.ref f_oinit)))
    (l_oinit : K.lookup f_oinit = some ⟨oc_oinit, od_oinit, .func (PySem.W.fnOf "__init__" "Order.__init__" (defArgs s_Order___init) (defBody s_Order___init) (defScope s_Order___init) .none kV_oinit dc_oinit pm_oinit an_oinit cd_oinit ct_oinit), sl_oinit⟩)
    (c_oinit : PySem.W.codeIn K cd_oinit "Order.__init__" = true)
    (k_oinit : PySem.W.keepIn K (.ref f_oinit) = true)
    (i_oinit : PySem.W.isFn K (.ref f_oinit) = true)
    (pa_sign : PySem.W.findIn K (.ref C) "sign" = some (some (.ref p_sign)))
    (pt_sign : PySem.W.specialIn K (.ref p_sign) "__get__" = some (some (.builtin "property.__get__")))
    (pk_sign : PySem.W.takesIn K (.ref p_sign) = some true)
    (a_sign : PySem.W.recIn K p_sign "property" = some (.ref f_sign :: r_sign))
    (l_sign : K.lookup f_sign = some ⟨oc_sign, od_sign, .func (PySem.W.fnOf "sign" "Order.sign" (defArgs s_Order_sign) (defBody s_Order_sign) (defScope s_Order_sign) .none kV_sign dc_sign pm_sign an_sign cd_sign ct_sign), sl_sign⟩)
    (c_sign : PySem.W.codeIn K cd_sign "Order.sign" = true)
    (k_sign : PySem.W.keepIn K (.ref f_sign) = true)
    (a_of_count : PySem.W.findIn K (.ref C) "of_count" = some (some (.ref f_of_count)))
    (l_of_count : K.lookup f_of_count = some ⟨oc_of_count, od_of_count, .func (PySem.W.fnOf "of_count" "Order.of_count" (defArgs s_Order_of_count) (defBody s_Order_of_count) (defScope s_Order_of_count) .none kV_of_count dc_of_count pm_of_count an_of_count cd_of_count ct_of_count), sl_of_count⟩)
    (c_of_count : PySem.W.codeIn K cd_of_count "Order.of_count" = true)
    (k_of_count : PySem.W.keepIn K (.ref f_of_count) = true)
    (i_of_count : PySem.W.isFn K (.ref f_of_count) = true)
    (a_oeq : PySem.W.findIn K (.ref C) "__eq__" = some (some (.ref f_oeq)))
    (l_oeq : K.lookup f_oeq = some ⟨oc_oeq, od_oeq, .func (PySem.W.fnOf "__eq__" "Order.__eq__" (defArgs s_Order___eq) (defBody s_Order___eq) (defScope s_Order___eq) .none kV_oeq dc_oeq pm_oeq an_oeq cd_oeq ct_oeq), sl_oeq⟩)
    (c_oeq : PySem.W.codeIn K cd_oeq "Order.__eq__" = true)
    (k_oeq : PySem.W.keepIn K (.ref f_oeq) = true)
    (i_oeq : PySem.W.isFn K (.ref f_oeq) = true)
    (c_OrderBook : PySem.W.nsIn K mainGlobals "OrderBook" = some (some (.ref OB)))
    (pg_OrderBook : PySem.W.plainGet K OB Str.empty = true)
    (hd_OrderBook : PySem.W.hasDictIn K OB = true)
    (po_OrderBook : PySem.W.plainOver K OB = true)
    (sa_OrderBook : PySem.W.findIn K (.ref OB) "__setattr__" = some (some (.builtin "object.__setattr__")))
    (mk_OrderBook : PySem.W.makesIn K OB = true)
    (kp_OrderBook : PySem.W.keepIn K (.ref OB) = true)
    (n_OrderBook__rows : PySem.W.findIn K (.ref OB) "_rows" = some none)
    (n_OrderBook__next : PySem.W.findIn K (.ref OB) "_next" = some none)
    (a_binit : PySem.W.findIn K (.ref OB) "__init__" = some (some (.ref f_binit)))
    (l_binit : K.lookup f_binit = some ⟨oc_binit, od_binit, .func (PySem.W.fnOf "__init__" "OrderBook.__init__" (defArgs s_OrderBook___init) (defBody s_OrderBook___init) (defScope s_OrderBook___init) .none kV_binit dc_binit pm_binit an_binit cd_binit ct_binit), sl_binit⟩)
    (c_binit : PySem.W.codeIn K cd_binit "OrderBook.__init__" = true)
    (k_binit : PySem.W.keepIn K (.ref f_binit) = true)
    (i_binit : PySem.W.isFn K (.ref f_binit) = true)
    (a_place : PySem.W.findIn K (.ref OB) "place" = some (some (.ref f_place)))
    (l_place : K.lookup f_place = some ⟨oc_place, od_place, .func (PySem.W.fnOf "place" "OrderBook.place" (defArgs s_OrderBook_place) (defBody s_OrderBook_place) (defScope s_OrderBook_place) .none kV_place dc_place pm_place an_place cd_place ct_place), sl_place⟩)
    (c_place : PySem.W.codeIn K cd_place "OrderBook.place" = true)
    (k_place : PySem.W.keepIn K (.ref f_place) = true)
    (i_place : PySem.W.isFn K (.ref f_place) = true)
    (a_order : PySem.W.findIn K (.ref OB) "order" = some (some (.ref f_order)))
    (l_order : K.lookup f_order = some ⟨oc_order, od_order, .func (PySem.W.fnOf "order" "OrderBook.order" (defArgs s_OrderBook_order) (defBody s_OrderBook_order) (defScope s_OrderBook_order) .none kV_order dc_order pm_order an_order cd_order ct_order), sl_order⟩)
    (c_order : PySem.W.codeIn K cd_order "OrderBook.order" = true)
    (k_order : PySem.W.keepIn K (.ref f_order) = true)
    (i_order : PySem.W.isFn K (.ref f_order) = true)
    (a_cancel : PySem.W.findIn K (.ref OB) "cancel" = some (some (.ref f_cancel)))
    (l_cancel : K.lookup f_cancel = some ⟨oc_cancel, od_cancel, .func (PySem.W.fnOf "cancel" "OrderBook.cancel" (defArgs s_OrderBook_cancel) (defBody s_OrderBook_cancel) (defScope s_OrderBook_cancel) .none kV_cancel dc_cancel pm_cancel an_cancel cd_cancel ct_cancel), sl_cancel⟩)
    (c_cancel : PySem.W.codeIn K cd_cancel "OrderBook.cancel" = true)
    (k_cancel : PySem.W.keepIn K (.ref f_cancel) = true)
    (i_cancel : PySem.W.isFn K (.ref f_cancel) = true)
    (a_cancel_all : PySem.W.findIn K (.ref OB) "cancel_all" = some (some (.ref f_cancel_all)))
    (l_cancel_all : K.lookup f_cancel_all = some ⟨oc_cancel_all, od_cancel_all, .func (PySem.W.fnOf "cancel_all" "OrderBook.cancel_all" (defArgs s_OrderBook_cancel_all) (defBody s_OrderBook_cancel_all) (defScope s_OrderBook_cancel_all) .none kV_cancel_all dc_cancel_all pm_cancel_all an_cancel_all cd_cancel_all ct_cancel_all), sl_cancel_all⟩)
    (c_cancel_all : PySem.W.codeIn K cd_cancel_all "OrderBook.cancel_all" = true)
    (k_cancel_all : PySem.W.keepIn K (.ref f_cancel_all) = true)
    (i_cancel_all : PySem.W.isFn K (.ref f_cancel_all) = true)
    (a_open_of : PySem.W.findIn K (.ref OB) "open_of" = some (some (.ref f_open_of)))
    (l_open_of : K.lookup f_open_of = some ⟨oc_open_of, od_open_of, .func (PySem.W.fnOf "open_of" "OrderBook.open_of" (defArgs s_OrderBook_open_of) (defBody s_OrderBook_open_of) (defScope s_OrderBook_open_of) .none kV_open_of dc_open_of pm_open_of an_open_of cd_open_of ct_open_of), sl_open_of⟩)
    (c_open_of : PySem.W.codeIn K cd_open_of "OrderBook.open_of" = true)
    (k_open_of : PySem.W.keepIn K (.ref f_open_of) = true)
    (i_open_of : PySem.W.isFn K (.ref f_open_of) = true)
    (a_best : PySem.W.findIn K (.ref OB) "best" = some (some (.ref f_best)))
    (l_best : K.lookup f_best = some ⟨oc_best, od_best, .func (PySem.W.fnOf "best" "OrderBook.best" (defArgs s_OrderBook_best) (defBody s_OrderBook_best) (defScope s_OrderBook_best) .none kV_best dc_best pm_best an_best cd_best ct_best), sl_best⟩)
    (c_best : PySem.W.codeIn K cd_best "OrderBook.best" = true)
    (k_best : PySem.W.keepIn K (.ref f_best) = true)
    (i_best : PySem.W.isFn K (.ref f_best) = true)
    (a_levels : PySem.W.findIn K (.ref OB) "levels" = some (some (.ref f_levels)))
    (l_levels : K.lookup f_levels = some ⟨oc_levels, od_levels, .func (PySem.W.fnOf "levels" "OrderBook.levels" (defArgs s_OrderBook_levels) (defBody s_OrderBook_levels) (defScope s_OrderBook_levels) .none kV_levels dc_levels pm_levels an_levels cd_levels ct_levels), sl_levels⟩)
    (c_levels : PySem.W.codeIn K cd_levels "OrderBook.levels" = true)
    (k_levels : PySem.W.keepIn K (.ref f_levels) = true)
    (i_levels : PySem.W.isFn K (.ref f_levels) = true)
    (a_side : PySem.W.findIn K (.ref OB) "_side" = some (some (.ref f_side)))
    (l_side : K.lookup f_side = some ⟨oc_side, od_side, .func (PySem.W.fnOf "_side" "OrderBook._side" (defArgs s_OrderBook__side) (defBody s_OrderBook__side) (defScope s_OrderBook__side) .none kV_side dc_side pm_side an_side cd_side ct_side), sl_side⟩)
    (c_side : PySem.W.codeIn K cd_side "OrderBook._side" = true)
    (k_side : PySem.W.keepIn K (.ref f_side) = true)
    (i_side : PySem.W.isFn K (.ref f_side) = true)
    (a_would_fill : PySem.W.findIn K (.ref OB) "would_fill" = some (some (.ref f_would_fill)))
    (l_would_fill : K.lookup f_would_fill = some ⟨oc_would_fill, od_would_fill, .func (PySem.W.fnOf "would_fill" "OrderBook.would_fill" (defArgs s_OrderBook_would_fill) (defBody s_OrderBook_would_fill) (defScope s_OrderBook_would_fill) .none kV_would_fill dc_would_fill pm_would_fill an_would_fill cd_would_fill ct_would_fill), sl_would_fill⟩)
    (c_would_fill : PySem.W.codeIn K cd_would_fill "OrderBook.would_fill" = true)
    (k_would_fill : PySem.W.keepIn K (.ref f_would_fill) = true)
    (i_would_fill : PySem.W.isFn K (.ref f_would_fill) = true)
    (a_iter : PySem.W.findIn K (.ref OB) "__iter__" = some (some (.ref f_iter)))
    (l_iter : K.lookup f_iter = some ⟨oc_iter, od_iter, .func (PySem.W.fnOf "__iter__" "OrderBook.__iter__" (defArgs s_OrderBook___iter) (defBody s_OrderBook___iter) (defScope s_OrderBook___iter) .none kV_iter dc_iter pm_iter an_iter cd_iter ct_iter), sl_iter⟩)
    (c_iter : PySem.W.codeIn K cd_iter "OrderBook.__iter__" = true)
    (k_iter : PySem.W.keepIn K (.ref f_iter) = true)
    (i_iter : PySem.W.isFn K (.ref f_iter) = true)
    (a_len : PySem.W.findIn K (.ref OB) "__len__" = some (some (.ref f_len)))
    (l_len : K.lookup f_len = some ⟨oc_len, od_len, .func (PySem.W.fnOf "__len__" "OrderBook.__len__" (defArgs s_OrderBook___len) (defBody s_OrderBook___len) (defScope s_OrderBook___len) .none kV_len dc_len pm_len an_len cd_len ct_len), sl_len⟩)
    (c_len : PySem.W.codeIn K cd_len "OrderBook.__len__" = true)
    (k_len : PySem.W.keepIn K (.ref f_len) = true)
    (i_len : PySem.W.isFn K (.ref f_len) = true)
    (tb : PySem.W.tabIn K "_law_ranked" = some (ca, PT))
    (nt : K.lookup PT = none)
    (ca_C : PySem.W.findIn K (.ref C) "__class__" = some (some (.builtin "object.__class__")))
    (cn_C : PySem.W.specialIn K (.builtin "object.__class__") "__get__" = some (some (.builtin "getset_descriptor.__get__")))
    (ct_C : PySem.W.takesIn K (.builtin "object.__class__") = some true)
    (cm_C : PySem.W.mroIn K C (.type "object") = some true)
    (l_C : K.lookup C = some (excClassObj nmC qnC C NC bsC [.type "object"] hdC snC subC abC colC ddC i0C i1C i2C i3C i5C newC))
    (l_NC : K.lookup NC = some ⟨clN, ddN, .dict esN nN, slN⟩)
    (q_NC : (esN.toList.all fun e => match e.key with | .str _ _ => true | _ => false) = true)
    (e_NC : PySem.W.nsIn K NC "__eq__" = some (some (.ref f_oeq)))
    (m_NC : PySem.W.nsIn K NC "__ne__" = some none)
    (ty_oeq : PySem.W.typeIn K (.ref f_oeq) = some (.type "function"))
    (c_MarketError : PySem.W.nsIn K mainGlobals "MarketError" = some (some (.ref ME)))
    (ic_M : PySem.W.isClsIn K ME = true)
    (ty_M : PySem.W.typeIn K (.ref ME) = some (.type "type"))
    (ex_M : PySem.W.subIn K (.ref ME) (.type "BaseException") = some true)
    (c_NoOrder : PySem.W.nsIn K mainGlobals "NoOrder" = some (some (.ref NO)))
    (l_NO : K.lookup NO = some (excClassObj nmNO qnNO NO NNO bsNO bmNO true snNO subNO abNO colNO ddNO i0NO i1NO i2NO i3NO i5NO "ValueError.__new__"))
    (h_NO : PySem.HandSPX.refsVE bmNO = true)
    (sa_NO : PySem.W.findIn K (.ref NO) "__setattr__" = some (some (.builtin "object.__setattr__")))
    (ex_NO : PySem.W.subIn K (.ref NO) (.type "BaseException") = some true)
    (ty_NO : PySem.W.typeIn K (.ref NO) = some (.type "type"))
    (kp_NO : PySem.W.keepIn K (.ref NO) = true)
    (ga_NO : PySem.W.findIn K (.ref NO) "__getattribute__" = some (some (.builtin "BaseException.__getattribute__")))
    (gg_NO : PySem.W.findIn K (.ref NO) "__getattr__" = some none)
    (hd_NO : PySem.W.hasDictIn K NO = true)
    (ic_NO : PySem.W.isClsIn K NO = true)
    (sb_NO : PySem.W.subIn K (.ref NO) (.ref NO) = some true)
    (nw_NO_number : PySem.W.findIn K (.ref NO) "number" = some none)
    (a_xiNO : PySem.W.findIn K (.ref NO) "__init__" = some (some (.ref f_xiNO)))
    (l_xiNO : K.lookup f_xiNO = some ⟨oc_xiNO, od_xiNO, .func (PySem.W.fnOf "__init__" "NoOrder.__init__" (defArgs s_NoOrder___init) (defBody s_NoOrder___init) (defScope s_NoOrder___init) .none kV_xiNO dc_xiNO pm_xiNO an_xiNO cd_xiNO ct_xiNO), sl_xiNO⟩)
    (c_xiNO : PySem.W.codeIn K cd_xiNO "NoOrder.__init__" = true)
    (k_xiNO : PySem.W.keepIn K (.ref f_xiNO) = true)
    (ty_xiNO : PySem.W.typeIn K (.ref f_xiNO) = some (.type "function"))
    (su_NO_ME : PySem.W.subIn K (.ref NO) (.ref ME) = some true)
    (ca_NO : PySem.W.findIn K (.ref NO) "__class__" = some (some (.builtin "object.__class__")))
    (cm_NO : PySem.W.mroIn K NO (.type "object") = some true)
    (sv_NO : PySem.W.subIn K (.ref NO) (.type "ValueError") = some true)
    (a_is_name : PySem.W.nsIn K mainGlobals "is_name" = some (some (.ref f_is_name)))
    (l_is_name : K.lookup f_is_name = some ⟨oc_is_name, od_is_name, .func (PySem.W.fnOf "is_name" "is_name" (defArgs s_is_name) (defBody s_is_name) (defScope s_is_name) .none kV_is_name dc_is_name pm_is_name an_is_name cd_is_name ct_is_name), sl_is_name⟩)
    (c_is_name : PySem.W.codeIn K cd_is_name "is_name" = true)
    (k_is_name : PySem.W.keepIn K (.ref f_is_name) = true)
    (a_is_thing_name : PySem.W.nsIn K mainGlobals "is_thing_name" = some (some (.ref f_is_thing_name)))
    (l_is_thing_name : K.lookup f_is_thing_name = some ⟨oc_is_thing_name, od_is_thing_name, .func (PySem.W.fnOf "is_thing_name" "is_thing_name" (defArgs s_is_thing_name) (defBody s_is_thing_name) (defScope s_is_thing_name) .none kV_is_thing_name dc_is_thing_name pm_is_thing_name an_is_thing_name cd_is_thing_name ct_is_thing_name), sl_is_thing_name⟩)
    (c_is_thing_name : PySem.W.codeIn K cd_is_thing_name "is_thing_name" = true)
    (k_is_thing_name : PySem.W.keepIn K (.ref f_is_thing_name) = true)
    (a_is_integer : PySem.W.nsIn K mainGlobals "is_integer" = some (some (.ref f_is_integer)))
    (l_is_integer : K.lookup f_is_integer = some ⟨oc_is_integer, od_is_integer, .func (PySem.W.fnOf "is_integer" "is_integer" (defArgs s_is_integer) (defBody s_is_integer) (defScope s_is_integer) .none kV_is_integer dc_is_integer pm_is_integer an_is_integer cd_is_integer ct_is_integer), sl_is_integer⟩)
    (c_is_integer : PySem.W.codeIn K cd_is_integer "is_integer" = true)
    (k_is_integer : PySem.W.keepIn K (.ref f_is_integer) = true)
    (a_is_whole : PySem.W.nsIn K mainGlobals "is_whole" = some (some (.ref f_is_whole)))
    (l_is_whole : K.lookup f_is_whole = some ⟨oc_is_whole, od_is_whole, .func (PySem.W.fnOf "is_whole" "is_whole" (defArgs s_is_whole) (defBody s_is_whole) (defScope s_is_whole) .none kV_is_whole dc_is_whole pm_is_whole an_is_whole cd_is_whole ct_is_whole), sl_is_whole⟩)
    (c_is_whole : PySem.W.codeIn K cd_is_whole "is_whole" = true)
    (k_is_whole : PySem.W.keepIn K (.ref f_is_whole) = true)
    (a_meets : PySem.W.nsIn K mainGlobals "meets" = some (some (.ref f_meets)))
    (l_meets : K.lookup f_meets = some ⟨oc_meets, od_meets, .func (PySem.W.fnOf "meets" "meets" (defArgs s_meets) (defBody s_meets) (defScope s_meets) .none kV_meets dc_meets pm_meets an_meets cd_meets ct_meets), sl_meets⟩)
    (c_meets : PySem.W.codeIn K cd_meets "meets" = true)
    (k_meets : PySem.W.keepIn K (.ref f_meets) = true)
    (a_rank : PySem.W.nsIn K mainGlobals "_rank" = some (some (.ref f_rank)))
    (l_rank : K.lookup f_rank = some ⟨oc_rank, od_rank, .func (PySem.W.fnOf "_rank" "_rank" (defArgs s_rank) (defBody s_rank) (defScope s_rank) .none kV_rank dc_rank pm_rank an_rank cd_rank ct_rank), sl_rank⟩)
    (c_rank : PySem.W.codeIn K cd_rank "_rank" = true)
    (k_rank : PySem.W.keepIn K (.ref f_rank) = true)
    (a_fill : PySem.W.nsIn K mainGlobals "_fill" = some (some (.ref f_fill)))
    (l_fill : K.lookup f_fill = some ⟨oc_fill, od_fill, .func (PySem.W.fnOf "_fill" "_fill" (defArgs s_fill) (defBody s_fill) (defScope s_fill) .none kV_fill dc_fill pm_fill an_fill cd_fill ct_fill), sl_fill⟩)
    (c_fill : PySem.W.codeIn K cd_fill "_fill" = true)
    (k_fill : PySem.W.keepIn K (.ref f_fill) = true)
    (a_matched : PySem.W.nsIn K mainGlobals "_matched" = some (some (.ref f_matched)))
    (l_matched : K.lookup f_matched = some ⟨oc_matched, od_matched, .func (PySem.W.fnOf "_matched" "_matched" (defArgs s_matched) (defBody s_matched) (defScope s_matched) .none kV_matched dc_matched pm_matched an_matched cd_matched ct_matched), sl_matched⟩)
    (c_matched : PySem.W.codeIn K cd_matched "_matched" = true)
    (k_matched : PySem.W.keepIn K (.ref f_matched) = true)
    (a_less : PySem.W.nsIn K mainGlobals "_less" = some (some (.ref f_less)))
    (l_less : K.lookup f_less = some ⟨oc_less, od_less, .func (PySem.W.fnOf "_less" "_less" (defArgs s_less) (defBody s_less) (defScope s_less) .none kV_less dc_less pm_less an_less cd_less ct_less), sl_less⟩)
    (c_less : PySem.W.codeIn K cd_less "_less" = true)
    (k_less : PySem.W.keepIn K (.ref f_less) = true)
    (a_law_bag : PySem.W.nsIn K mainGlobals "_law_bag" = some (some (.ref f_law_bag)))
    (l_law_bag : K.lookup f_law_bag = some ⟨oc_law_bag, od_law_bag, .func (PySem.W.fnOf "_law_bag" "_law_bag" (defArgs s_law_bag) (defBody s_law_bag) (defScope s_law_bag) .none kV_law_bag dc_law_bag pm_law_bag an_law_bag cd_law_bag ct_law_bag), sl_law_bag⟩)
    (c_law_bag : PySem.W.codeIn K cd_law_bag "_law_bag" = true)
    (k_law_bag : PySem.W.keepIn K (.ref f_law_bag) = true)
    (a_law_take : PySem.W.nsIn K mainGlobals "_law_take" = some (some (.ref f_law_take)))
    (l_law_take : K.lookup f_law_take = some ⟨oc_law_take, od_law_take, .func (PySem.W.fnOf "_law_take" "_law_take" (defArgs s_law_take) (defBody s_law_take) (defScope s_law_take) .none kV_law_take dc_law_take pm_law_take an_law_take cd_law_take ct_law_take), sl_law_take⟩)
    (c_law_take : PySem.W.codeIn K cd_law_take "_law_take" = true)
    (k_law_take : PySem.W.keepIn K (.ref f_law_take) = true)
    (a_law_of : PySem.W.nsIn K mainGlobals "_law_of" = some (some (.ref f_law_of)))
    (l_law_of : K.lookup f_law_of = some ⟨oc_law_of, od_law_of, .func (PySem.W.fnOf "_law_of" "_law_of" (defArgs s_law_of) (defBody s_law_of) (defScope s_law_of) .none kV_law_of dc_law_of pm_law_of an_law_of cd_law_of ct_law_of), sl_law_of⟩)
    (c_law_of : PySem.W.codeIn K cd_law_of "_law_of" = true)
    (k_law_of : PySem.W.keepIn K (.ref f_law_of) = true)
    (a_law_names : PySem.W.nsIn K mainGlobals "_law_names" = some (some (.ref f_law_names)))
    (l_law_names : K.lookup f_law_names = some ⟨oc_law_names, od_law_names, .func (PySem.W.fnOf "_law_names" "_law_names" (defArgs s_law_names) (defBody s_law_names) (defScope s_law_names) .none kV_law_names dc_law_names pm_law_names an_law_names cd_law_names ct_law_names), sl_law_names⟩)
    (c_law_names : PySem.W.codeIn K cd_law_names "_law_names" = true)
    (k_law_names : PySem.W.keepIn K (.ref f_law_names) = true)
    (a_law_far : PySem.W.nsIn K mainGlobals "_law_far" = some (some (.ref f_law_far)))
    (l_law_far : K.lookup f_law_far = some ⟨oc_law_far, od_law_far, .func (PySem.W.fnOf "_law_far" "_law_far" (defArgs s_law_far) (defBody s_law_far) (defScope s_law_far) .none kV_law_far dc_law_far pm_law_far an_law_far cd_law_far ct_law_far), sl_law_far⟩)
    (c_law_far : PySem.W.codeIn K cd_law_far "_law_far" = true)
    (k_law_far : PySem.W.keepIn K (.ref f_law_far) = true)
    (a_law_order : PySem.W.nsIn K mainGlobals "_law_order" = some (some (.ref f_law_order)))
    (l_law_order : K.lookup f_law_order = some ⟨oc_law_order, od_law_order, .func (PySem.W.fnOf "_law_order" "_law_order" (defArgs s_law_order) (defBody s_law_order) (defScope s_law_order) .none kV_law_order dc_law_order pm_law_order an_law_order cd_law_order ct_law_order), sl_law_order⟩)
    (c_law_order : PySem.W.codeIn K cd_law_order "_law_order" = true)
    (k_law_order : PySem.W.keepIn K (.ref f_law_order) = true)
    (a_law_row : PySem.W.nsIn K mainGlobals "_law_row" = some (some (.ref f_law_row)))
    (l_law_row : K.lookup f_law_row = some ⟨oc_law_row, od_law_row, .func (PySem.W.fnOf "_law_row" "_law_row" (defArgs s_law_row) (defBody s_law_row) (defScope s_law_row) .none kV_law_row dc_law_row pm_law_row an_law_row cd_law_row ct_law_row), sl_law_row⟩)
    (c_law_row : PySem.W.codeIn K cd_law_row "_law_row" = true)
    (k_law_row : PySem.W.keepIn K (.ref f_law_row) = true)
    (a_law_limits : PySem.W.nsIn K mainGlobals "_law_limits" = some (some (.ref f_law_limits)))
    (l_law_limits : K.lookup f_law_limits = some ⟨oc_law_limits, od_law_limits, .func (PySem.W.fnOf "_law_limits" "_law_limits" (defArgs s_law_limits) (defBody s_law_limits) (defScope s_law_limits) .none kV_law_limits dc_law_limits pm_law_limits an_law_limits cd_law_limits ct_law_limits), sl_law_limits⟩)
    (c_law_limits : PySem.W.codeIn K cd_law_limits "_law_limits" = true)
    (k_law_limits : PySem.W.keepIn K (.ref f_law_limits) = true)
    (a_law_first : PySem.W.nsIn K mainGlobals "_law_first" = some (some (.ref f_law_first)))
    (l_law_first : K.lookup f_law_first = some ⟨oc_law_first, od_law_first, .func (PySem.W.fnOf "_law_first" "_law_first" (defArgs s_law_first) (defBody s_law_first) (defScope s_law_first) .none kV_law_first dc_law_first pm_law_first an_law_first cd_law_first ct_law_first), sl_law_first⟩)
    (c_law_first : PySem.W.codeIn K cd_law_first "_law_first" = true)
    (k_law_first : PySem.W.keepIn K (.ref f_law_first) = true)
    (a_law_placed : PySem.W.nsIn K mainGlobals "_law_placed" = some (some (.ref f_law_placed)))
    (l_law_placed : K.lookup f_law_placed = some ⟨oc_law_placed, od_law_placed, .func (PySem.W.fnOf "_law_placed" "_law_placed" (defArgs s_law_placed) (defBody s_law_placed) (defScope s_law_placed) .none kV_law_placed dc_law_placed pm_law_placed an_law_placed cd_law_placed ct_law_placed), sl_law_placed⟩)
    (c_law_placed : PySem.W.codeIn K cd_law_placed "_law_placed" = true)
    (k_law_placed : PySem.W.keepIn K (.ref f_law_placed) = true)
    (a_law_plain : PySem.W.nsIn K mainGlobals "_law_plain" = some (some (.ref f_law_plain)))
    (l_law_plain : K.lookup f_law_plain = some ⟨oc_law_plain, od_law_plain, .func (PySem.W.fnOf "_law_plain" "_law_plain" (defArgs s_law_plain) (defBody s_law_plain) (defScope s_law_plain) .none kV_law_plain dc_law_plain pm_law_plain an_law_plain cd_law_plain ct_law_plain), sl_law_plain⟩)
    (c_law_plain : PySem.W.codeIn K cd_law_plain "_law_plain" = true)
    (k_law_plain : PySem.W.keepIn K (.ref f_law_plain) = true)
    (a_law_ranked : PySem.W.nsIn K mainGlobals "_law_ranked" = some (some (.ref f_law_ranked)))
    (l_law_ranked : K.lookup f_law_ranked = some ⟨oc_law_ranked, od_law_ranked, .func (PySem.W.fnOf "_law_ranked" "_law_ranked" (defArgs s_law_ranked) (defBody s_law_ranked) (defScope s_law_ranked) .none kV_law_ranked dc_law_ranked pm_law_ranked an_law_ranked (.ref ca) ct_law_ranked), sl_law_ranked⟩)
    (c_law_ranked : PySem.W.codeIn K (.ref ca) "_law_ranked" = true)
    (k_law_ranked : PySem.W.keepIn K (.ref f_law_ranked) = true)
    (a_law_levels : PySem.W.nsIn K mainGlobals "_law_levels" = some (some (.ref f_law_levels)))
    (l_law_levels : K.lookup f_law_levels = some ⟨oc_law_levels, od_law_levels, .func (PySem.W.fnOf "_law_levels" "_law_levels" (defArgs s_law_levels) (defBody s_law_levels) (defScope s_law_levels) .none kV_law_levels dc_law_levels pm_law_levels an_law_levels cd_law_levels ct_law_levels), sl_law_levels⟩)
    (c_law_levels : PySem.W.codeIn K cd_law_levels "_law_levels" = true)
    (k_law_levels : PySem.W.keepIn K (.ref f_law_levels) = true)
    (a_law_is_right : PySem.W.nsIn K mainGlobals "_law_is_right" = some (some (.ref f_law_is_right)))
    (l_law_is_right : K.lookup f_law_is_right = some ⟨oc_law_is_right, od_law_is_right, .func (PySem.W.fnOf "_law_is_right" "_law_is_right" (defArgs s_law_is_right) (defBody s_law_is_right) (defScope s_law_is_right) .none kV_law_is_right dc_law_is_right pm_law_is_right an_law_is_right cd_law_is_right ct_law_is_right), sl_law_is_right⟩)
    (c_law_is_right : PySem.W.codeIn K cd_law_is_right "_law_is_right" = true)
    (k_law_is_right : PySem.W.keepIn K (.ref f_law_is_right) = true)
    (a_law_cancelled : PySem.W.nsIn K mainGlobals "_law_cancelled" = some (some (.ref f_law_cancelled)))
    (l_law_cancelled : K.lookup f_law_cancelled = some ⟨oc_law_cancelled, od_law_cancelled, .func (PySem.W.fnOf "_law_cancelled" "_law_cancelled" (defArgs s_law_cancelled) (defBody s_law_cancelled) (defScope s_law_cancelled) .none kV_law_cancelled dc_law_cancelled pm_law_cancelled an_law_cancelled cd_law_cancelled ct_law_cancelled), sl_law_cancelled⟩)
    (c_law_cancelled : PySem.W.codeIn K cd_law_cancelled "_law_cancelled" = true)
    (k_law_cancelled : PySem.W.keepIn K (.ref f_law_cancelled) = true)
    (a_law : PySem.W.nsIn K mainGlobals "law" = some (some (.ref f_law)))
    (l_law : K.lookup f_law = some ⟨oc_law, od_law, .func (PySem.W.fnOf "law" "law" (defArgs s_law) (defBody s_law) (defScope s_law) .none kV_law dc_law pm_law an_law cd_law ct_law), sl_law⟩)
    (c_law : PySem.W.codeIn K cd_law "law" = true)
    (k_law : PySem.W.keepIn K (.ref f_law) = true)
    (g_MOST : PySem.W.nsIn K mainGlobals "MOST" = some (some (.int 1000000000000 t_MOST)))
    (g_MOST_COUNT : PySem.W.nsIn K mainGlobals "MOST_COUNT" = some (some (.int 1000000 t_MOST_COUNT)))
    (g__CASH : PySem.W.nsIn K mainGlobals "_CASH" = some (some (.str "cash" t__CASH)))
    (g__LETTERS : PySem.W.nsIn K mainGlobals "_LETTERS" = some (some (.str "abcdefghijklmnopqrstuvwxyz" t__LETTERS)))
    (g__LONGEST_NAME : PySem.W.nsIn K mainGlobals "_LONGEST_NAME" = some (some (.int 12 t__LONGEST_NAME)))
    (z_int : PySem.W.nsIn K mainGlobals "int" = some none)
    (z_abs : PySem.W.nsIn K mainGlobals "abs" = some none)
    (z_len : PySem.W.nsIn K mainGlobals "len" = some none)
    (z_range : PySem.W.nsIn K mainGlobals "range" = some none)
    (z_min : PySem.W.nsIn K mainGlobals "min" = some none)
    (z_isinstance : PySem.W.nsIn K mainGlobals "isinstance" = some none)
    (z_all : PySem.W.nsIn K mainGlobals "all" = some none)
    (z_str : PySem.W.nsIn K mainGlobals "str" = some none)
    (z_bool : PySem.W.nsIn K mainGlobals "bool" = some none)
    (z_list : PySem.W.nsIn K mainGlobals "list" = some none)
    (z_tuple : PySem.W.nsIn K mainGlobals "tuple" = some none)
    (z_enumerate : PySem.W.nsIn K mainGlobals "enumerate" = some none)
    (z_iter : PySem.W.nsIn K mainGlobals "iter" = some none)
    (z_max : PySem.W.nsIn K mainGlobals "max" = some none)
    (z_sum : PySem.W.nsIn K mainGlobals "sum" = some none)
    (z_sorted : PySem.W.nsIn K mainGlobals "sorted" = some none)
    (z_repr : PySem.W.nsIn K mainGlobals "repr" = some none)
    (z_ValueError : PySem.W.nsIn K mainGlobals "ValueError" = some none)
    (htab : ∀ c P, PySem.W.tabIn K "_law_ranked" = some (c, P) → PySem.W.CodeHd h c P ∧ h.get? P = some { cls := .none, data := .fields #[] }) : LamX.LawAtS l w K (L2.CX l.prog w) 13 63 "script" mg fa h := by
  have e := hfa.symm.trans (PySem.W.mg_of X G a_law)
  cases e
  have F_oinit := fun_mk (st := s_Order___init) l_oinit c_oinit k_oinit
  have F_sign := fun_mk (st := s_Order_sign) l_sign c_sign k_sign
  have F_of_count := fun_mk (st := s_Order_of_count) l_of_count c_of_count k_of_count
  have F_oeq := fun_mk (st := s_Order___eq) l_oeq c_oeq k_oeq
  have F_binit := fun_mk (st := s_OrderBook___init) l_binit c_binit k_binit
  have F_place := fun_mk (st := s_OrderBook_place) l_place c_place k_place
  have F_order := fun_mk (st := s_OrderBook_order) l_order c_order k_order
  have F_cancel := fun_mk (st := s_OrderBook_cancel) l_cancel c_cancel k_cancel
  have F_cancel_all := fun_mk (st := s_OrderBook_cancel_all) l_cancel_all c_cancel_all k_cancel_all
  have F_open_of := fun_mk (st := s_OrderBook_open_of) l_open_of c_open_of k_open_of
  have F_best := fun_mk (st := s_OrderBook_best) l_best c_best k_best
  have F_levels := fun_mk (st := s_OrderBook_levels) l_levels c_levels k_levels
  have F_side := fun_mk (st := s_OrderBook__side) l_side c_side k_side
  have F_would_fill := fun_mk (st := s_OrderBook_would_fill) l_would_fill c_would_fill k_would_fill
  have F_iter := fun_mk (st := s_OrderBook___iter) l_iter c_iter k_iter
  have F_len := fun_mk (st := s_OrderBook___len) l_len c_len k_len
  have F_xiNO := fun_mk (st := s_NoOrder___init) l_xiNO c_xiNO k_xiNO
  have F_is_name := fun_mk (st := s_is_name) l_is_name c_is_name k_is_name
  have F_is_thing_name := fun_mk (st := s_is_thing_name) l_is_thing_name c_is_thing_name k_is_thing_name
  have F_is_integer := fun_mk (st := s_is_integer) l_is_integer c_is_integer k_is_integer
  have F_is_whole := fun_mk (st := s_is_whole) l_is_whole c_is_whole k_is_whole
  have F_meets := fun_mk (st := s_meets) l_meets c_meets k_meets
  have F_rank := fun_mk (st := s_rank) l_rank c_rank k_rank
  have F_fill := fun_mk (st := s_fill) l_fill c_fill k_fill
  have F_matched := fun_mk (st := s_matched) l_matched c_matched k_matched
  have F_less := fun_mk (st := s_less) l_less c_less k_less
  have F_law_bag := fun_mk (st := s_law_bag) l_law_bag c_law_bag k_law_bag
  have F_law_take := fun_mk (st := s_law_take) l_law_take c_law_take k_law_take
  have F_law_of := fun_mk (st := s_law_of) l_law_of c_law_of k_law_of
  have F_law_names := fun_mk (st := s_law_names) l_law_names c_law_names k_law_names
  have F_law_far := fun_mk (st := s_law_far) l_law_far c_law_far k_law_far
  have F_law_order := fun_mk (st := s_law_order) l_law_order c_law_order k_law_order
  have F_law_row := fun_mk (st := s_law_row) l_law_row c_law_row k_law_row
  have F_law_limits := fun_mk (st := s_law_limits) l_law_limits c_law_limits k_law_limits
  have F_law_first := fun_mk (st := s_law_first) l_law_first c_law_first k_law_first
  have F_law_placed := fun_mk (st := s_law_placed) l_law_placed c_law_placed k_law_placed
  have F_law_plain := fun_mk (st := s_law_plain) l_law_plain c_law_plain k_law_plain
  have F_law_ranked := fun_mk (st := s_law_ranked) l_law_ranked c_law_ranked k_law_ranked
  have F_law_levels := fun_mk (st := s_law_levels) l_law_levels c_law_levels k_law_levels
  have F_law_is_right := fun_mk (st := s_law_is_right) l_law_is_right c_law_is_right k_law_is_right
  have F_law_cancelled := fun_mk (st := s_law_cancelled) l_law_cancelled c_law_cancelled k_law_cancelled
  have F_law := fun_mk (st := s_law) l_law c_law k_law
  have b_is_name := F_is_name.binds (ps := ["thing"]) fun _ _ _ _ _ _ us hl => match us, hl with | [_], _ => rfl
  have b_is_thing_name := F_is_thing_name.binds (ps := ["thing"]) fun _ _ _ _ _ _ us hl => match us, hl with | [_], _ => rfl
  have b_is_integer := F_is_integer.binds (ps := ["thing"]) fun _ _ _ _ _ _ us hl => match us, hl with | [_], _ => rfl
  have b_is_whole := F_is_whole.binds (ps := ["thing", "low", "high"]) fun _ _ _ _ _ _ us hl => match us, hl with | [_, _, _], _ => rfl
  have b_oinit := F_oinit.binds (ps := ["self", "member", "thing", "side", "count", "limit"]) fun _ _ _ _ _ _ us hl => match us, hl with | [_, _, _, _, _, _], _ => rfl
  have b_sign := F_sign.binds (ps := ["self"]) fun _ _ _ _ _ _ us hl => match us, hl with | [_], _ => rfl
  have b_of_count := F_of_count.binds (ps := ["self", "count"]) fun _ _ _ _ _ _ us hl => match us, hl with | [_, _], _ => rfl
  have b_oeq := F_oeq.binds (ps := ["self", "other"]) fun _ _ _ _ _ _ us hl => match us, hl with | [_, _], _ => rfl
  have b_meets := F_meets.binds (ps := ["one", "other"]) fun _ _ _ _ _ _ us hl => match us, hl with | [_, _], _ => rfl
  have b_rank := F_rank.binds (ps := ["row"]) fun _ _ _ _ _ _ us hl => match us, hl with | [_], _ => rfl
  have b_fill := F_fill.binds (ps := ["placed", "resting", "count"]) fun _ _ _ _ _ _ us hl => match us, hl with | [_, _, _], _ => rfl
  have b_matched := F_matched.binds (ps := ["rows", "placed"]) fun _ _ _ _ _ _ us hl => match us, hl with | [_, _], _ => rfl
  have b_less := F_less.binds (ps := ["rows", "taken"]) fun _ _ _ _ _ _ us hl => match us, hl with | [_, _], _ => rfl
  have b_binit := F_binit.binds (ps := ["self"]) fun _ _ _ _ _ _ us hl => match us, hl with | [_], _ => rfl
  have b_place := F_place.binds (ps := ["self", "order"]) fun _ _ _ _ _ _ us hl => match us, hl with | [_, _], _ => rfl
  have b_order := F_order.binds (ps := ["self", "number"]) fun _ _ _ _ _ _ us hl => match us, hl with | [_, _], _ => rfl
  have b_cancel := F_cancel.binds (ps := ["self", "number"]) fun _ _ _ _ _ _ us hl => match us, hl with | [_, _], _ => rfl
  have b_cancel_all := F_cancel_all.binds (ps := ["self", "member"]) fun _ _ _ _ _ _ us hl => match us, hl with | [_, _], _ => rfl
  have b_open_of := F_open_of.binds (ps := ["self", "member"]) fun _ _ _ _ _ _ us hl => match us, hl with | [_, _], _ => rfl
  have b_best := F_best.binds (ps := ["self", "thing", "side"]) fun _ _ _ _ _ _ us hl => match us, hl with | [_, _, _], _ => rfl
  have b_levels := F_levels.binds (ps := ["self", "thing", "side"]) fun _ _ _ _ _ _ us hl => match us, hl with | [_, _, _], _ => rfl
  have b_side := F_side.binds (ps := ["self", "thing", "side"]) fun _ _ _ _ _ _ us hl => match us, hl with | [_, _, _], _ => rfl
  have b_iter := F_iter.binds (ps := ["self"]) fun _ _ _ _ _ _ us hl => match us, hl with | [_], _ => rfl
  have b_len := F_len.binds (ps := ["self"]) fun _ _ _ _ _ _ us hl => match us, hl with | [_], _ => rfl
  have b_law_bag := F_law_bag.binds (ps := ["script", "at"]) fun _ _ _ _ _ _ us hl => match us, hl with | [_, _], _ => rfl
  have b_law_take := F_law_take.binds (ps := ["bag", "many"]) fun _ _ _ _ _ _ us hl => match us, hl with | [_, _], _ => rfl
  have b_law_of := F_law_of.binds (ps := ["bag", "some"]) fun _ _ _ _ _ _ us hl => match us, hl with | [_, _], _ => rfl
  have b_law_names := F_law_names.binds (ps := ["bag", "many"]) fun _ _ _ _ _ _ us hl => match us, hl with | [_, _], _ => rfl
  have b_law_far := F_law_far.binds (ps := ["bag", "most"]) fun _ _ _ _ _ _ us hl => match us, hl with | [_, _], _ => rfl
  have b_law_order := F_law_order.binds (ps := ["row"]) fun _ _ _ _ _ _ us hl => match us, hl with | [_], _ => rfl
  have b_law_row := F_law_row.binds (ps := ["bag", "members", "things", "limits"]) fun _ _ _ _ _ _ us hl => match us, hl with | [_, _, _, _], _ => rfl
  have b_law_limits := F_law_limits.binds (ps := ["bag"]) fun _ _ _ _ _ _ us hl => match us, hl with | [_], _ => rfl
  have b_law_first := F_law_first.binds (ps := ["rows", "row"]) fun _ _ _ _ _ _ us hl => match us, hl with | [_, _], _ => rfl
  have b_law_placed := F_law_placed.binds (ps := ["rows", "number", "row"]) fun _ _ _ _ _ _ us hl => match us, hl with | [_, _, _], _ => rfl
  have b_law_plain := F_law_plain.binds (ps := ["pairs"]) fun _ _ _ _ _ _ us hl => match us, hl with | [_], _ => rfl
  have b_law_ranked := F_law_ranked.binds (ps := ["rows", "thing", "side"]) fun _ _ _ _ _ _ us hl => match us, hl with | [_, _, _], _ => rfl
  have b_law_levels := F_law_levels.binds (ps := ["ranked"]) fun _ _ _ _ _ _ us hl => match us, hl with | [_], _ => rfl
  have b_law_is_right := F_law_is_right.binds (ps := ["book", "rows", "members", "things"]) fun _ _ _ _ _ _ us hl => match us, hl with | [_, _, _, _], _ => rfl
  have b_law_cancelled := F_law_cancelled.binds (ps := ["bag", "book", "rows", "members"]) fun _ _ _ _ _ _ us hl => match us, hl with | [_, _, _, _], _ => rfl
  have b_law := F_law.binds (ps := ["script"]) fun _ _ _ _ _ _ us hl => match us, hl with | [_], _ => rfl
  have b_would_fill := F_would_fill.binds (ps := ["self", "order"]) fun _ _ _ _ _ _ us hl => match us, hl with | [_, _], _ => rfl
  have b_xiNO := F_xiNO.binds (ps := ["self", "number"]) fun _ _ _ _ _ _ us hl => match us, hl with | [_, _], _ => rfl
  have g : ∀ {x : Str} {v : Value}, PySem.W.nsIn K mainGlobals x = some (some v) → mg x = some v := fun a => PySem.W.mg_of X G a
  have z : ∀ {x : Str}, PySem.W.nsIn K mainGlobals x = some none → mg x = none := fun a => PySem.W.mg_none_of X G a
  have ex_ME := ex_M
  have ic_ME := ic_M
  have ty_ME := ty_M
  have TB : TxtB mg := ⟨z z_int, z z_abs, z z_len, z z_range, z z_min⟩
  have TN : TxtN mg := { TB with b_isinstance := z z_isinstance, b_all := z z_all, b_str := z z_str, b_bool := z z_bool, b_list := z z_list, b_tuple := z z_tuple, b_enumerate := z z_enumerate, b_iter := z z_iter, b_max := z z_max, b_sum := z z_sum, b_sorted := z z_sorted, b_repr := z z_repr, k__CASH := ⟨_, g g__CASH⟩, k__LETTERS := ⟨_, g g__LETTERS⟩, k__LONGEST_NAME := ⟨_, g g__LONGEST_NAME⟩, k_MOST := ⟨_, g g_MOST⟩, k_MOST_COUNT := ⟨_, g g_MOST_COUNT⟩ }
  have na : ∀ n : Str, (["member", "thing", "side", "count", "limit"] : List Str).contains n = true → NoAttr K C n := fun n hn => by
    have hn' : n ∈ (["member", "thing", "side", "count", "limit"] : List Str) := List.contains_iff_mem.mp hn
    simp only [List.mem_cons, List.not_mem_nil, or_false] at hn'
    rcases hn' with rfl | rfl | rfl | rfl | rfl
    · exact n_Order_member
    · exact n_Order_thing
    · exact n_Order_side
    · exact n_Order_count
    · exact n_Order_limit
  have nb : ∀ n : Str, (["_rows", "_next"] : List Str).contains n = true → NoAttr K OB n := fun n hn => by
    have hn' : n ∈ (["_rows", "_next"] : List Str) := List.contains_iff_mem.mp hn
    simp only [List.mem_cons, List.not_mem_nil, or_false] at hn'
    rcases hn' with rfl | rfl
    · exact n_OrderBook__rows
    · exact n_OrderBook__next
  have cl : Cls K C := ⟨pg_Order, hd_Order, po_Order, sa_Order⟩
  have clb : Cls K OB := ⟨pg_OrderBook, hd_OrderBook, po_OrderBook, sa_OrderBook⟩
  have TO : TxtO K mg C := { TN with c_Order := g c_Order, cl_Order := cl, na_Order := na, cr_Order := ⟨rd_Order, ga_Order⟩, v_Order_BUY := ⟨_, v_Order_BUY, ⟨_, rfl⟩⟩, v_Order_SELL := ⟨_, v_Order_SELL, ⟨_, rfl⟩⟩, si_Order := ⟨ca_C, cn_C, ct_C, cm_C⟩ }
  have TK : TxtBk K mg C OB := { TO with c_OrderBook := g c_OrderBook, cl_OrderBook := clb, na_OrderBook := nb }
  have ne : NeOf K C f_oeq := ⟨⟨_, _, _, _, _, _, _, _, _, _, _, _, _, _, _, _, l_C, ns_ok l_NC q_NC, e_NC, m_NC⟩, fn_of_ty ty_oeq⟩
  have oex_NO : OexC K NO := ⟨⟨_, _, _, _, _, _, _, _, _, _, _, _, _, _, _, l_NO, h_NO⟩, sa_NO, ex_NO, ty_NO, kp_NO⟩
  have xf_NO : XfC K NO := ⟨ga_NO, gg_NO, ex_NO, hd_NO⟩
  have exm_NO := exm_ref ex_NO ic_NO ty_NO sb_NO
  have exm_NO_ME := exm_ref ex_ME ic_ME ty_ME su_NO_ME
  have hcs := htab _ _ tb
  have mem1 : ∀ p : Addr × Addr, p ∈ [(ca, PT)] → p = (ca, PT) := fun p hp => List.mem_singleton.mp hp
  refine ⟨PySem.W.fnOf "law" "law" (defArgs s_law) (defBody s_law) (defScope s_law) .none kV_law dc_law pm_law an_law cd_law ct_law, [(ca, PT)], spG K PT lamQ sdLaw, fun p hp => by rw [mem1 p hp]; exact hcs.2, fun p hp => by rw [mem1 p hp]; exact nt, fun p hp => by rw [mem1 p hp]; exact hcs.1, fun s v => .of_eq rfl, fun H a ns _ _ hT hS => law_in (hT (ca, PT) List.mem_cons_self) hS, fun base Kb Gb TBs => ?_⟩
  have TBl : LamX.TabB base mg ca PT := TBs (ca, PT) List.mem_cons_self
  let X_NoOrder : DefX l.prog w K mg base "NoOrder" NO ["number"] := ⟨_, _, _, oex_NO, a_xiNO, ty_xiNO, ok_NoOrder F_xiNO oex_NO nw_NO_number, b_xiNO, g c_NoOrder⟩
  let D_is_integer : DefD l.prog w K mg base "is_integer" 1 ["thing"] sdIntX := ⟨_, _, ok_integerX F_is_integer TN, g a_is_integer, k_is_integer, b_is_integer⟩
  let D_is_whole : DefD l.prog w K mg base "is_whole" 3 ["thing", "low", "high"] sdWholeR := ⟨_, _, ok_wholeR D_is_integer F_is_whole TN, g a_is_whole, k_is_whole, b_is_whole⟩
  let D_is_name : DefD l.prog w K mg base "is_name" 1 ["thing"] sdNameX := ⟨_, _, ok_nameX F_is_name TN, g a_is_name, k_is_name, b_is_name⟩
  let D_is_thing_name : DefD l.prog w K mg base "is_thing_name" 3 ["thing"] sdThing := ⟨_, _, ok_thing D_is_name F_is_thing_name TN, g a_is_thing_name, k_is_thing_name, b_is_thing_name⟩
  let D_Order___init : NOrd l.prog w K mg base C := ⟨_, _, ok_oinit D_is_name D_is_thing_name D_is_whole F_oinit TO, b_oinit, ⟨mk_Order, a_oinit, i_oinit, kp_Order⟩⟩
  let D_Order_sign : PSign l.prog w K mg base C := ⟨_, _, _, ok_sign F_sign TO, b_sign, ⟨pa_sign, pt_sign, pk_sign, ⟨_, a_sign⟩⟩⟩
  let D_Order_of_count : MOf l.prog w K mg base C := ⟨_, _, ok_ofcount D_Order___init F_of_count TO, b_of_count, ⟨a_of_count, i_of_count, k_of_count⟩⟩
  let D_Order___eq : DefE l.prog w K mg base C 1 ["self", "other"] (sdOEq C) := ⟨_, _, ok_oeq F_oeq TO, b_oeq, a_oeq, i_oeq, ne⟩
  let D_meets : DefD l.prog w K mg base "meets" 3 ["one", "other"] (sdMeets C) := ⟨_, _, ok_meets D_Order_sign F_meets TO, g a_meets, k_meets, b_meets⟩
  let D_rank : DefD l.prog w K mg base "_rank" 3 ["row"] (sdRank C) := ⟨_, _, ok_rank D_Order_sign F_rank TO, g a_rank, k_rank, b_rank⟩
  let D_fill : DefD l.prog w K mg base "_fill" 3 ["placed", "resting", "count"] (sdFill C) := ⟨_, _, ok_fill D_Order_sign F_fill TO, g a_fill, k_fill, b_fill⟩
  let D_matched : DefD l.prog w K mg base "_matched" 7 ["rows", "placed"] (sdMatched C) := ⟨_, _, ok_matched D_meets D_rank D_fill F_matched TO, g a_matched, k_matched, b_matched⟩
  let D_less : DefD l.prog w K mg base "_less" 9 ["rows", "taken"] (sdLess C) := ⟨_, _, ok_less D_Order_of_count F_less TO, g a_less, k_less, b_less⟩
  let D_OrderBook___init : DefN l.prog w K mg base OB 1 ["self"] (sdBInit C OB) := ⟨_, _, ok_binit F_binit TK, b_binit, ⟨mk_OrderBook, a_binit, i_binit, kp_OrderBook⟩⟩
  let D_OrderBook_place : DefM l.prog w K mg base OB "place" 11 ["self", "order"] (sdPlace C OB) := ⟨_, _, ok_place D_matched D_less D_Order_of_count F_place TK, b_place, ⟨a_place, i_place, k_place⟩⟩
  let D_OrderBook_order : DefM l.prog w K mg base OB "order" 3 ["self", "number"] (sdOrder C OB NO) := ⟨_, _, ok_order X_NoOrder D_is_integer F_order TK, b_order, ⟨a_order, i_order, k_order⟩⟩
  let D_OrderBook_cancel : DefM l.prog w K mg base OB "cancel" 5 ["self", "number"] (sdCancel C OB NO) := ⟨_, _, ok_cancel D_OrderBook_order F_cancel TK, b_cancel, ⟨a_cancel, i_cancel, k_cancel⟩⟩
  let D_OrderBook_open_of : DefM l.prog w K mg base OB "open_of" 1 ["self", "member"] (sdOpenOf C OB) := ⟨_, _, ok_openof F_open_of TK, b_open_of, ⟨a_open_of, i_open_of, k_open_of⟩⟩
  have I_OrderBook := iter_of clb n_OrderBook__rows a_iter i_iter F_iter b_iter
  let D_OrderBook_cancel_all : DefM l.prog w K mg base OB "cancel_all" 3 ["self", "member"] (sdCancelAll C OB) := ⟨_, _, ok_cancelall D_OrderBook_open_of F_cancel_all TK, b_cancel_all, ⟨a_cancel_all, i_cancel_all, k_cancel_all⟩⟩
  let D_OrderBook__side : DefM l.prog w K mg base OB "_side" 7 ["self", "thing", "side"] (sdSide C OB) := ⟨_, _, ok_side D_rank F_side TK, b_side, ⟨a_side, i_side, k_side⟩⟩
  let D_OrderBook_best : DefM l.prog w K mg base OB "best" 9 ["self", "thing", "side"] (sdBest C OB) := ⟨_, _, ok_best D_OrderBook__side F_best TK, b_best, ⟨a_best, i_best, k_best⟩⟩
  let D_OrderBook_levels : DefM l.prog w K mg base OB "levels" 9 ["self", "thing", "side"] (sdLevels C OB) := ⟨_, _, ok_levels D_OrderBook__side F_levels TK, b_levels, ⟨a_levels, i_levels, k_levels⟩⟩
  let D_OrderBook_would_fill : DefM l.prog w K mg base OB "would_fill" 9 ["self", "order"] (sdWould C OB) := ⟨_, _, ok_would D_matched F_would_fill TK, b_would_fill, ⟨a_would_fill, i_would_fill, k_would_fill⟩⟩
  let D_OrderBook___len : DefLen l.prog w K mg base OB 1 ["self"] (sdLen C OB) := ⟨_, _, ok_len F_len TK, b_len, ⟨a_len, i_len⟩⟩
  let D_law_bag : DefD l.prog w K mg base "_law_bag" 1 ["script", "at"] sdBag := ⟨_, _, ok_bag F_law_bag TN, g a_law_bag, k_law_bag, b_law_bag⟩
  let D_law_take : DefD l.prog w K mg base "_law_take" 1 ["bag", "many"] sdTake := ⟨_, _, ok_take F_law_take TB, g a_law_take, k_law_take, b_law_take⟩
  let D_law_of : DefD l.prog w K mg base "_law_of" 3 ["bag", "some"] sdOf := ⟨_, _, ok_of D_law_take F_law_of TB, g a_law_of, k_law_of, b_law_of⟩
  let D_law_names : DefD l.prog w K mg base "_law_names" 5 ["bag", "many"] sdNames := ⟨_, _, ok_names D_law_take D_law_of F_law_names TN, g a_law_names, k_law_names, b_law_names⟩
  let D_law_far : DefD l.prog w K mg base "_law_far" 3 ["bag", "most"] sdFar := ⟨_, _, ok_far D_law_take F_law_far TB, g a_law_far, k_law_far, b_law_far⟩
  let D_law_order : DefD l.prog w K mg base "_law_order" 7 ["row"] (sdLOrder C) := ⟨_, _, ok_lorder D_Order___init F_law_order TO, g a_law_order, k_law_order, b_law_order⟩
  let D_law_row : DefD l.prog w K mg base "_law_row" 5 ["bag", "members", "things", "limits"] sdLRow := ⟨_, _, ok_lrow D_law_take D_law_of F_law_row TB, g a_law_row, k_law_row, b_law_row⟩
  let D_law_limits : DefD l.prog w K mg base "_law_limits" 5 ["bag"] sdLims := ⟨_, _, ok_lims D_law_take D_law_of D_law_far F_law_limits TB, g a_law_limits, k_law_limits, b_law_limits⟩
  let D_law_first : DefD l.prog w K mg base "_law_first" 1 ["rows", "row"] sdFirst := ⟨_, _, ok_first F_law_first TO, g a_law_first, k_law_first, b_law_first⟩
  let D_law_placed : DefD l.prog w K mg base "_law_placed" 3 ["rows", "number", "row"] sdPlacedL := ⟨_, _, ok_placedL D_law_first F_law_placed TO, g a_law_placed, k_law_placed, b_law_placed⟩
  let D_law_plain : DefD l.prog w K mg base "_law_plain" 1 ["pairs"] (sdPlain C) := ⟨_, _, ok_plain F_law_plain TO, g a_law_plain, k_law_plain, b_law_plain⟩
  let D_law_ranked : DefT l.prog w K mg base "_law_ranked" 5 ["rows", "thing", "side"] PT lamQ sdRanked := ⟨_, _, ok_ranked TBl rfl F_law_ranked TO, g a_law_ranked, k_law_ranked, b_law_ranked⟩
  let D_law_levels : DefD l.prog w K mg base "_law_levels" 3 ["ranked"] sdLLevels := ⟨_, _, ok_levelsL F_law_levels TO, g a_law_levels, k_law_levels, b_law_levels⟩
  let D_law_cancelled : DefD l.prog w K mg base "_law_cancelled" 7 ["bag", "book", "rows", "members"] (sdCancelled C OB) := ⟨_, _, ok_cancelled D_law_take D_law_of D_law_plain D_OrderBook_cancel D_OrderBook_cancel_all F_law_cancelled TK, g a_law_cancelled, k_law_cancelled, b_law_cancelled⟩
  let D_law_is_right : DefT l.prog w K mg base "_law_is_right" 11 ["book", "rows", "members", "things"] PT lamQ (sdRight C OB) := ⟨_, _, ok_right D_law_plain D_law_ranked D_law_levels D_OrderBook_order D_OrderBook_open_of D_OrderBook_best D_OrderBook_levels D_OrderBook___len I_OrderBook F_law_is_right TK, g a_law_is_right, k_law_is_right, b_law_is_right⟩
  exact ok_law D_law_bag D_law_take D_law_names D_law_limits D_law_row D_law_order D_law_placed D_law_plain D_law_cancelled D_law_is_right D_OrderBook___init D_OrderBook_place D_OrderBook_would_fill I_OrderBook F_law TK
theorem walk {l : PySem.W.OpenLaw} {q : Program} {loose : List Str} {XP : (Str → Option Value) → Heap → Prop} {YP : World → Heap → Prop} {d : DefRec} {K : Params → PySem.W.Frag} (hn : l.most = some 63) (hdf : d.params.defaults = []) (hrec : ∃ dr, (recsOf q).find? (fun e => e.name == ("_law_ranked" : Str)) = some dr)
    (hY : ∀ (w : World) (h : Heap), YP w h → (K w.params).In h)
    (F : ∀ (w : World) (mg : Str → Option Value) (fa : Addr) (h : Heap), (K w.params).In h → h.Ns mainGlobals mg → mg d.name = some (.ref fa) → (∀ c P, PySem.W.tabIn (K w.params) "_law_ranked" = some (c, P) → PySem.W.CodeHd h c P ∧ h.get? P = some { cls := .none, data := .fields #[] }) → LamX.LawAtS l w (K w.params) (L2.CX l.prog w) 13 63 "script" mg fa h) :
    PySem.W.WalkO q loose XP YP l.row.toRowW d [] (fun f vs => PySem.call f vs) := by
  obtain ⟨dr, hrec⟩ := hrec
  exact walk_ofTab (n := 63) (k := 13) (x := "script") (CX := fun w => L2.CX l.prog w) hn (by decide) hdf ⟨rfl, by decide, by decide⟩ hrec hY F fun _ _ _ _ _ z => cx_none z
end KT
open PySem PySem.W PyProof.Rows
set_option maxRecDepth 100000 in
set_option maxHeartbeats 0 in
theorem PySem.Challenge.cw_coveredday_k03_whole_book_by_a_plain_lis_holds : PySem.Challenge.rw_coveredday_k03_whole_book_by_a_plain_lis.Holds := by
  w_on; o_law; k_head; (case hw => w_witness2)
  k_fill
  refine KT.walk (l := PySem.Challenge.rw_coveredday_k03_whole_book_by_a_plain_lis) rfl rfl ?hrec (fun w h Y => PySem.W.km_in_of Y) ?F
  case hrec => exact ⟨_, rfl⟩
  case F =>
    intro w mg fa h KX G hmg htab
    refine' KT.all_mk (htab := htab) KX G hmg ?c_Order ?pg_Order ?hd_Order ?po_Order ?sa_Order ?mk_Order ?kp_Order ?n_Order_member ?n_Order_thing ?n_Order_side ?n_Order_count ?n_Order_limit ?rd_Order ?ga_Order ?v_Order_BUY ?v_Order_SELL ?a_oinit ?l_oinit ?c_oinit ?k_oinit ?i_oinit ?pa_sign ?pt_sign ?pk_sign ?a_sign ?l_sign ?c_sign ?k_sign ?a_of_count ?l_of_count ?c_of_count ?k_of_count ?i_of_count ?a_oeq ?l_oeq ?c_oeq ?k_oeq ?i_oeq ?c_OrderBook ?pg_OrderBook ?hd_OrderBook ?po_OrderBook ?sa_OrderBook ?mk_OrderBook ?kp_OrderBook ?n_OrderBook__rows ?n_OrderBook__next ?a_binit ?l_binit ?c_binit ?k_binit ?i_binit ?a_place ?l_place ?c_place ?k_place ?i_place ?a_order ?l_order ?c_order ?k_order ?i_order ?a_cancel ?l_cancel ?c_cancel ?k_cancel ?i_cancel ?a_cancel_all ?l_cancel_all ?c_cancel_all ?k_cancel_all ?i_cancel_all ?a_open_of ?l_open_of ?c_open_of ?k_open_of ?i_open_of ?a_best ?l_best ?c_best ?k_best ?i_best ?a_levels ?l_levels ?c_levels ?k_levels ?i_levels ?a_side ?l_side ?c_side ?k_side ?i_side ?a_would_fill ?l_would_fill ?c_would_fill ?k_would_fill ?i_would_fill ?a_iter ?l_iter ?c_iter ?k_iter ?i_iter ?a_len ?l_len ?c_len ?k_len ?i_len ?tb ?nt ?ca_C ?cn_C ?ct_C ?cm_C ?l_C ?l_NC ?q_NC ?e_NC ?m_NC ?ty_oeq ?c_MarketError ?ic_M ?ty_M ?ex_M ?c_NoOrder ?l_NO ?h_NO ?sa_NO ?ex_NO ?ty_NO ?kp_NO ?ga_NO ?gg_NO ?hd_NO ?ic_NO ?sb_NO ?nw_NO_number ?a_xiNO ?l_xiNO ?c_xiNO ?k_xiNO ?ty_xiNO ?su_NO_ME ?ca_NO ?cm_NO ?sv_NO ?a_is_name ?l_is_name ?c_is_name ?k_is_name ?a_is_thing_name ?l_is_thing_name ?c_is_thing_name ?k_is_thing_name ?a_is_integer ?l_is_integer ?c_is_integer ?k_is_integer ?a_is_whole ?l_is_whole ?c_is_whole ?k_is_whole ?a_meets ?l_meets ?c_meets ?k_meets ?a_rank ?l_rank ?c_rank ?k_rank ?a_fill ?l_fill ?c_fill ?k_fill ?a_matched ?l_matched ?c_matched ?k_matched ?a_less ?l_less ?c_less ?k_less ?a_law_bag ?l_law_bag ?c_law_bag ?k_law_bag ?a_law_take ?l_law_take ?c_law_take ?k_law_take ?a_law_of ?l_law_of ?c_law_of ?k_law_of ?a_law_names ?l_law_names ?c_law_names ?k_law_names ?a_law_far ?l_law_far ?c_law_far ?k_law_far ?a_law_order ?l_law_order ?c_law_order ?k_law_order ?a_law_row ?l_law_row ?c_law_row ?k_law_row ?a_law_limits ?l_law_limits ?c_law_limits ?k_law_limits ?a_law_first ?l_law_first ?c_law_first ?k_law_first ?a_law_placed ?l_law_placed ?c_law_placed ?k_law_placed ?a_law_plain ?l_law_plain ?c_law_plain ?k_law_plain ?a_law_ranked ?l_law_ranked ?c_law_ranked ?k_law_ranked ?a_law_levels ?l_law_levels ?c_law_levels ?k_law_levels ?a_law_is_right ?l_law_is_right ?c_law_is_right ?k_law_is_right ?a_law_cancelled ?l_law_cancelled ?c_law_cancelled ?k_law_cancelled ?a_law ?l_law ?c_law ?k_law ?g_MOST ?g_MOST_COUNT ?g__CASH ?g__LETTERS ?g__LONGEST_NAME ?z_int ?z_abs ?z_len ?z_range ?z_min ?z_isinstance ?z_all ?z_str ?z_bool ?z_list ?z_tuple ?z_enumerate ?z_iter ?z_max ?z_sum ?z_sorted ?z_repr ?z_ValueError
    (case c_Order => k_is)
    (case pg_Order => k_is)
    (case hd_Order => k_is)
    (case po_Order => k_is)
    (case sa_Order => k_is)
    (case mk_Order => k_is)
    (case kp_Order => k_is)
    (case n_Order_member => k_is)
    (case n_Order_thing => k_is)
    (case n_Order_side => k_is)
    (case n_Order_count => k_is)
    (case n_Order_limit => k_is)
    (case rd_Order => k_is)
    (case ga_Order => k_is)
    (case v_Order_BUY => k_is)
    (case v_Order_SELL => k_is)
    (case a_oinit => k_is)
    (case l_oinit => k_is)
    (case c_oinit => k_is)
    (case k_oinit => k_is)
    (case i_oinit => k_is)
    (case pa_sign => k_is)
    (case pt_sign => k_is)
    (case pk_sign => k_is)
    (case a_sign => k_is)
    (case l_sign => k_is)
    (case c_sign => k_is)
    (case k_sign => k_is)
    (case a_of_count => k_is)
    (case l_of_count => k_is)
    (case c_of_count => k_is)
    (case k_of_count => k_is)
    (case i_of_count => k_is)
    (case a_oeq => k_is)
    (case l_oeq => k_is)
    (case c_oeq => k_is)
    (case k_oeq => k_is)
    (case i_oeq => k_is)
    (case c_OrderBook => k_is)
    (case pg_OrderBook => k_is)
    (case hd_OrderBook => k_is)
    (case po_OrderBook => k_is)
    (case sa_OrderBook => k_is)
    (case mk_OrderBook => k_is)
    (case kp_OrderBook => k_is)
    (case n_OrderBook__rows => k_is)
    (case n_OrderBook__next => k_is)
    (case a_binit => k_is)
    (case l_binit => k_is)
    (case c_binit => k_is)
    (case k_binit => k_is)
    (case i_binit => k_is)
    (case a_place => k_is)
    (case l_place => k_is)
    (case c_place => k_is)
    (case k_place => k_is)
    (case i_place => k_is)
    (case a_order => k_is)
    (case l_order => k_is)
    (case c_order => k_is)
    (case k_order => k_is)
    (case i_order => k_is)
    (case a_cancel => k_is)
    (case l_cancel => k_is)
    (case c_cancel => k_is)
    (case k_cancel => k_is)
    (case i_cancel => k_is)
    (case a_cancel_all => k_is)
    (case l_cancel_all => k_is)
    (case c_cancel_all => k_is)
    (case k_cancel_all => k_is)
    (case i_cancel_all => k_is)
    (case a_open_of => k_is)
    (case l_open_of => k_is)
    (case c_open_of => k_is)
    (case k_open_of => k_is)
    (case i_open_of => k_is)
    (case a_best => k_is)
    (case l_best => k_is)
    (case c_best => k_is)
    (case k_best => k_is)
    (case i_best => k_is)
    (case a_levels => k_is)
    (case l_levels => k_is)
    (case c_levels => k_is)
    (case k_levels => k_is)
    (case i_levels => k_is)
    (case a_side => k_is)
    (case l_side => k_is)
    (case c_side => k_is)
    (case k_side => k_is)
    (case i_side => k_is)
    (case a_would_fill => k_is)
    (case l_would_fill => k_is)
    (case c_would_fill => k_is)
    (case k_would_fill => k_is)
    (case i_would_fill => k_is)
    (case a_iter => k_is)
    (case l_iter => k_is)
    (case c_iter => k_is)
    (case k_iter => k_is)
    (case i_iter => k_is)
    (case a_len => k_is)
    (case l_len => k_is)
    (case c_len => k_is)
    (case k_len => k_is)
    (case i_len => k_is)
    (case tb => exact rfl)
    (case nt => first | k_is | exact rfl)
    (case ca_C => k_is)
    (case cn_C => k_is)
    (case ct_C => k_is)
    (case cm_C => k_is)
    (case l_C => k_is)
    (case l_NC => k_is)
    (case q_NC => first | rfl | decide +kernel)
    (case e_NC => k_is)
    (case m_NC => k_is)
    (case ty_oeq => k_is)
    (case c_MarketError => k_is)
    (case ic_M => k_is)
    (case ty_M => k_is)
    (case ex_M => k_is)
    (case c_NoOrder => k_is)
    (case l_NO => k_is)
    (case h_NO => first | rfl | decide +kernel)
    (case sa_NO => k_is)
    (case ex_NO => k_is)
    (case ty_NO => k_is)
    (case kp_NO => k_is)
    (case ga_NO => k_is)
    (case gg_NO => k_is)
    (case hd_NO => k_is)
    (case ic_NO => k_is)
    (case sb_NO => k_is)
    (case nw_NO_number => k_is)
    (case a_xiNO => k_is)
    (case l_xiNO => k_is)
    (case c_xiNO => k_is)
    (case k_xiNO => k_is)
    (case ty_xiNO => k_is)
    (case su_NO_ME => k_is)
    (case ca_NO => k_is)
    (case cm_NO => k_is)
    (case sv_NO => k_is)
    (case a_is_name => k_is)
    (case l_is_name => k_is)
    (case c_is_name => k_is)
    (case k_is_name => k_is)
    (case a_is_thing_name => k_is)
    (case l_is_thing_name => k_is)
    (case c_is_thing_name => k_is)
    (case k_is_thing_name => k_is)
    (case a_is_integer => k_is)
    (case l_is_integer => k_is)
    (case c_is_integer => k_is)
    (case k_is_integer => k_is)
    (case a_is_whole => k_is)
    (case l_is_whole => k_is)
    (case c_is_whole => k_is)
    (case k_is_whole => k_is)
    (case a_meets => k_is)
    (case l_meets => k_is)
    (case c_meets => k_is)
    (case k_meets => k_is)
    (case a_rank => k_is)
    (case l_rank => k_is)
    (case c_rank => k_is)
    (case k_rank => k_is)
    (case a_fill => k_is)
    (case l_fill => k_is)
    (case c_fill => k_is)
    (case k_fill => k_is)
    (case a_matched => k_is)
    (case l_matched => k_is)
    (case c_matched => k_is)
    (case k_matched => k_is)
    (case a_less => k_is)
    (case l_less => k_is)
    (case c_less => k_is)
    (case k_less => k_is)
    (case a_law_bag => k_is)
    (case l_law_bag => k_is)
    (case c_law_bag => k_is)
    (case k_law_bag => k_is)
    (case a_law_take => k_is)
    (case l_law_take => k_is)
    (case c_law_take => k_is)
    (case k_law_take => k_is)
    (case a_law_of => k_is)
    (case l_law_of => k_is)
    (case c_law_of => k_is)
    (case k_law_of => k_is)
    (case a_law_names => k_is)
    (case l_law_names => k_is)
    (case c_law_names => k_is)
    (case k_law_names => k_is)
    (case a_law_far => k_is)
    (case l_law_far => k_is)
    (case c_law_far => k_is)
    (case k_law_far => k_is)
    (case a_law_order => k_is)
    (case l_law_order => k_is)
    (case c_law_order => k_is)
    (case k_law_order => k_is)
    (case a_law_row => k_is)
    (case l_law_row => k_is)
    (case c_law_row => k_is)
    (case k_law_row => k_is)
    (case a_law_limits => k_is)
    (case l_law_limits => k_is)
    (case c_law_limits => k_is)
    (case k_law_limits => k_is)
    (case a_law_first => k_is)
    (case l_law_first => k_is)
    (case c_law_first => k_is)
    (case k_law_first => k_is)
    (case a_law_placed => k_is)
    (case l_law_placed => k_is)
    (case c_law_placed => k_is)
    (case k_law_placed => k_is)
    (case a_law_plain => k_is)
    (case l_law_plain => k_is)
    (case c_law_plain => k_is)
    (case k_law_plain => k_is)
    (case a_law_ranked => k_is)
    (case l_law_ranked => k_is)
    (case c_law_ranked => k_is)
    (case k_law_ranked => k_is)
    (case a_law_levels => k_is)
    (case l_law_levels => k_is)
    (case c_law_levels => k_is)
    (case k_law_levels => k_is)
    (case a_law_is_right => k_is)
    (case l_law_is_right => k_is)
    (case c_law_is_right => k_is)
    (case k_law_is_right => k_is)
    (case a_law_cancelled => k_is)
    (case l_law_cancelled => k_is)
    (case c_law_cancelled => k_is)
    (case k_law_cancelled => k_is)
    (case a_law => k_is)
    (case l_law => k_is)
    (case c_law => k_is)
    (case k_law => k_is)
    (case g_MOST => k_is)
    (case g_MOST_COUNT => k_is)
    (case g__CASH => k_is)
    (case g__LETTERS => k_is)
    (case g__LONGEST_NAME => k_is)
    (case z_int => k_is)
    (case z_abs => k_is)
    (case z_len => k_is)
    (case z_range => k_is)
    (case z_min => k_is)
    (case z_isinstance => k_is)
    (case z_all => k_is)
    (case z_str => k_is)
    (case z_bool => k_is)
    (case z_list => k_is)
    (case z_tuple => k_is)
    (case z_enumerate => k_is)
    (case z_iter => k_is)
    (case z_max => k_is)
    (case z_sum => k_is)
    (case z_sorted => k_is)
    (case z_repr => k_is)
    (case z_ValueError => k_is)
